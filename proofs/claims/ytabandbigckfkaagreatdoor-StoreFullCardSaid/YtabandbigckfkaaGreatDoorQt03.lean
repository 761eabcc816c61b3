import Derived.Test.YtabandbigckfkaaGreatDoorQt02
import Derived.Lib.AppendStr
set_option maxHeartbeats 6400000
set_option maxRecDepth 100000
set_option linter.unusedSimpArgs false
set_option linter.unusedVariables false
namespace Go.Proofs.YtabandbigckfkaaGreatDoor
namespace Spc
structure Sp where
 v:Int
 d:Int
 u:Int
 n:Int
 g:Int
 a:Int
 b:Int
 c:Int
 e:Int
 w:Int
 x:Int
 k:Int
def zero:Sp:=⟨0,0,0,0,0,0,0,0,0,0,0,0⟩
def flds(s:Sp):List Int:=[s.v,s.d,s.u,s.n,s.g,s.a,s.b,s.c,s.e,s.w,s.x,s.k]
def i64(n:Int):Prop:= -9223372036854775808≤n∧n≤9223372036854775807
def In(s:Sp):Prop:=∀n∈flds s,i64 n
theorem flds_length(s:Sp):(flds s).length=12:=rfl
theorem flds_inj{s t:Sp}(h:flds s=flds t):s=t:=by
 cases s;cases t
 simp only[flds,List.cons.injEq,and_true]at h;obtain⟨h1,h2,h3,h4,h5,h6,h7,h8,h9,h10,h11,h12⟩:=h;subst h1 h2 h3 h4 h5 h6 h7 h8 h9 h10 h11 h12;rfl
def of(l:List Int):Sp:=⟨l.getD 0 0,l.getD 1 0,l.getD 2 0,l.getD 3 0,l.getD 4 0,l.getD 5 0,l.getD 6 0,l.getD 7 0,l.getD 8 0,l.getD 9 0,l.getD 10 0,l.getD 11 0⟩
theorem of_flds(s:Sp):of (flds s)=s:=rfl
theorem flds_of{l:List Int}(h:l.length=12):flds (of l)=l:=by
 match l,h with
 |[_,_,_,_,_,_,_,_,_,_,_,_],_=>rfl
def inn(n lo hi:Int):Bool:=decide (lo≤n)&&decide (n≤hi)
def at_(s:Sp)(i:Nat):Int:=[s.a,s.b,s.c,s.e].getD i 0
def st(s:Sp)(i:Nat):Bool:=
 if s.g≠0 then decide (at_ s i=0)else if i=0 then inn s.a 1 100 else decide (at_ s i=0)|| (decide (0<at_ s (i -1))&&inn (at_ s i) (at_ s (i -1)+1) 100)
def chk(s:Sp):Nat:=
 if !inn s.v 1 1048576 then 1 else if !inn s.d 1 16 then 2 else if !inn s.u 0 (16 -s.d)then 3
 else if !inn s.n 0 s.d|| (decide (s.n=0)&&decide (s.u=0))then 4 else if !inn s.g 0 2|| (decide (s.g=2)&&decide (s.u<s.d))then 5
 else if !st s 0 then 6 else if !st s 1 then 7 else if !st s 2 then 8 else if !st s 3 then 9
 else if !inn s.w 1 1048576 then 10 else if !inn s.x 0 1048576 then 11 else if !inn s.k 1 1048576 then 12 else 0
def chkE(s:Sp):Int:=if chk s=0 then 0 else 11
theorem inn_iff{n lo hi:Int}:inn n lo hi=true↔lo≤n∧n≤hi:=by unfold inn;simp
structure May(s:Sp):Prop where
 v:1≤s.v∧s.v≤1048576
 d:1≤s.d∧s.d≤16
 u:0≤s.u∧s.u≤16 -s.d
 n:0≤s.n∧s.n≤s.d∧¬(s.n=0∧s.u=0)
 g:0≤s.g∧s.g≤2∧¬(s.g=2∧s.u<s.d)
 s0:st s 0=true
 s1:st s 1=true
 s2:st s 2=true
 s3:st s 3=true
 w:1≤s.w∧s.w≤1048576
 x:0≤s.x∧s.x≤1048576
 k:1≤s.k∧s.k≤1048576
theorem may_of{s:Sp}(h:chk s=0):May s:=by
 unfold chk at h;have h1:inn s.v 1 1048576=true:=by
  cases e:inn s.v 1 1048576 with
  |true=>rfl
  |false=>simp[e]at h
 rw[h1,if_neg (by simp)]at h;have h2:inn s.d 1 16=true:=by
  cases e:inn s.d 1 16 with
  |true=>rfl
  |false=>simp[e]at h
 rw[h2,if_neg (by simp)]at h;have h3:inn s.u 0 (16 -s.d)=true:=by
  cases e:inn s.u 0 (16 -s.d)with
  |true=>rfl
  |false=>simp[e]at h
 rw[h3,if_neg (by simp)]at h;have h4:(!inn s.n 0 s.d|| (decide (s.n=0)&&decide (s.u=0)))=false:=by
  cases e:(!inn s.n 0 s.d|| (decide (s.n=0)&&decide (s.u=0)))with
  |false=>rfl
  |true=>rw[e,if_pos rfl]at h;omega
 rw[h4,if_neg (by simp)]at h;have h5:(!inn s.g 0 2|| (decide (s.g=2)&&decide (s.u<s.d)))=false:=by
  cases e:(!inn s.g 0 2|| (decide (s.g=2)&&decide (s.u<s.d)))with
  |false=>rfl
  |true=>rw[e,if_pos rfl]at h;omega
 rw[h5,if_neg (by simp)]at h;have h6:st s 0=true:=by
  cases e:st s 0 with
  |true=>rfl
  |false=>simp[e]at h
 rw[h6,if_neg (by simp)]at h;have h7:st s 1=true:=by
  cases e:st s 1 with
  |true=>rfl
  |false=>simp[e]at h
 rw[h7,if_neg (by simp)]at h;have h8:st s 2=true:=by
  cases e:st s 2 with
  |true=>rfl
  |false=>simp[e]at h
 rw[h8,if_neg (by simp)]at h;have h9:st s 3=true:=by
  cases e:st s 3 with
  |true=>rfl
  |false=>simp[e]at h
 rw[h9,if_neg (by simp)]at h;have h10:inn s.w 1 1048576=true:=by
  cases e:inn s.w 1 1048576 with
  |true=>rfl
  |false=>simp[e]at h
 rw[h10,if_neg (by simp)]at h;have h11:inn s.x 0 1048576=true:=by
  cases e:inn s.x 0 1048576 with
  |true=>rfl
  |false=>simp[e]at h
 rw[h11,if_neg (by simp)]at h;have h12:inn s.k 1 1048576=true:=by
  cases e:inn s.k 1 1048576 with
  |true=>rfl
  |false=>simp[e]at h
 rw[Bool.or_eq_false_iff,Bool.and_eq_false_iff,decide_eq_false_iff_not,decide_eq_false_iff_not,Bool.not_eq_false']at h4 h5;have i4:=inn_iff.1 h4.1;have i5:=inn_iff.1 h5.1;exact⟨inn_iff.1 h1,inn_iff.1 h2,inn_iff.1 h3,by omega,by omega,h6,h7,h8,h9,inn_iff.1 h10,inn_iff.1 h11,inn_iff.1 h12⟩
theorem chk_of{s:Sp}(h:May s):chk s=0:=by
 obtain⟨h1,h2,h3,h4,h5,h6,h7,h8,h9,h10,h11,h12⟩:=h;unfold chk;have e1:inn s.v 1 1048576=true:=inn_iff.2 h1;have e2:inn s.d 1 16=true:=inn_iff.2 h2;have e3:inn s.u 0 (16 -s.d)=true:=inn_iff.2 h3;have e4:inn s.n 0 s.d=true:=inn_iff.2 ⟨h4.1,h4.2.1⟩;have e5:inn s.g 0 2=true:=inn_iff.2 ⟨h5.1,h5.2.1⟩;have e6:inn s.w 1 1048576=true:=inn_iff.2 h10;have e7:inn s.x 0 1048576=true:=inn_iff.2 h11;have e8:inn s.k 1 1048576=true:=inn_iff.2 h12;have f4:(decide (s.n=0)&&decide (s.u=0))=false:=by
  rw[Bool.and_eq_false_iff,decide_eq_false_iff_not,decide_eq_false_iff_not];omega
 have f5:(decide (s.g=2)&&decide (s.u<s.d))=false:=by
  rw[Bool.and_eq_false_iff,decide_eq_false_iff_not,decide_eq_false_iff_not];omega
 simp[e1,e2,e3,e4,e5,e6,e7,e8,f4,f5,h6,h7,h8,h9]
theorem May.canary{s:Sp}(h:May s)(hg:s.g=0):(1≤s.a∧s.a≤100)∧(s.b=0∨(s.a<s.b∧s.b≤100))∧(s.c=0∨(0<s.b∧s.b<s.c∧s.c≤100))∧(s.e=0∨(0<s.c∧s.c<s.e∧s.e≤100)):=by
 have h0:=h.s0;have h1:=h.s1;have h2:=h.s2;have h3:=h.s3;simp[st,hg,at_,inn_iff]at h0 h1 h2 h3;omega
theorem May.other{s:Sp}(h:May s)(hg:s.g≠0):s.a=0∧s.b=0∧s.c=0∧s.e=0:=by
 have h0:=h.s0;have h1:=h.s1;have h2:=h.s2;have h3:=h.s3;simp[st,hg,at_]at h0 h1 h2 h3;exact⟨h0,h1,h2,h3⟩
theorem May.small{s:Sp}(h:May s):∀n∈flds s,0≤n∧n≤1048576:=by
 have h1:=h.v;have h2:=h.d;have h3:=h.u;have h4:=h.n;have h5:=h.g;have h10:=h.w;have h11:=h.x;have h12:=h.k;intro n hn;simp only[flds,List.mem_cons,List.not_mem_nil,or_false]at hn;by_cases hg:s.g=0
 ·have:=h.canary hg
  rcases hn with rfl|rfl|rfl|rfl|rfl|rfl|rfl|rfl|rfl|rfl|rfl|rfl<;>omega
 ·have:=h.other hg
  rcases hn with rfl|rfl|rfl|rfl|rfl|rfl|rfl|rfl|rfl|rfl|rfl|rfl<;>omega
def steps(s:Sp):List Int:=if s.a=0 then[]else if s.b=0 then[s.a]else if s.c=0 then[s.a,s.b]else if s.e=0 then[s.a,s.b,s.c]else[s.a,s.b,s.c,s.e]
def cutc(n:Int):Int:=max 0 (min n 1048576)
def low(s:Sp):Int:=max (cutc s.d -cutc s.n) 0
def near(n least many:Int):Int:=least+n%18446744073709551616%many
theorem near_in(n least many:Int)(h:0<many):least≤near n least many∧near n least many<least+many:=by
 unfold near;have h1:=Int.emod_nonneg (n%18446744073709551616) (b:=many) (by omega);have h2:=Int.emod_lt_of_pos (n%18446744073709551616) h;omega
def made(s:Sp):Nat→List Int→Int→List Int
 |0,l,_=>l
 |m+1,l,last=>
  let i:=3 -m
  let n:=near (at_ s i) 0 60+(if i=0 then 1 else 0)
  if n=0∨100<last+n then l else made s m (l++[last+n]) (last+n)
def gd(s:Sp):Int:=near s.d 1 5
def gg(s:Sp):Int:=near s.g 0 3
def gu(s:Sp):Int:=if gg s=2 then gd s+near s.u 0 2 else near s.u 0 4
def gn(s:Sp):Int:=if gu s=0∧near s.n 0 (gd s+1)=0 then 1 else near s.n 0 (gd s+1)
def gs(s:Sp):List Int:=if gg s=0 then made s 4 [] 0 else[]
def good(s:Sp):Sp:=⟨near s.v 1 6,gd s,gu s,gn s,gg s,(gs s).getD 0 0,(gs s).getD 1 0,(gs s).getD 2 0,(gs s).getD 3 0,near s.w 1 9,near s.x 0 4,near s.k 1 60⟩
def Up:List Int→Int→Prop
 |[],_=>True
 |n::l,last=>last<n∧n≤100∧Up l n
theorem up_snoc{l:List Int}{last n:Int}(h:Up l last)(hn:(l.getLastD last)<n)(h100:n≤100):Up (l++[n]) last:=by
 induction l generalizing last with
 |nil=>exact⟨hn,h100,trivial⟩
 |cons y l ih=>
  obtain⟨h1,h2,h3⟩:=h;rw[List.getLastD_cons]at hn;exact⟨h1,h2,ih h3 hn⟩
theorem made_up(s:Sp)(m:Nat)(l:List Int)(last:Int)(h:Up l 0)(hl:l.getLastD 0=last)(hm:l.length+m=4):Up (made s m l last) 0∧(made s m l last).length≤4:=by
 induction m generalizing l last with
 |zero=>exact⟨h,by show l.length≤4;omega⟩
 |succ m ih=>
  unfold made;have hn:=near_in (at_ s (3 -m)) 0 60 (by omega);simp only;obtain⟨t,ht⟩:∃t,t=near (at_ s (3 -m)) 0 60+(if 3 -m=0 then 1 else 0):=⟨_,rfl⟩;have ht0:0≤t:=by rw[ht];split<;>omega
  rw[←ht];by_cases hc:t=0∨100<last+t
  ·rw[if_pos hc];exact⟨h,by omega⟩
  ·rw[if_neg hc]
   exact ih _ _ (up_snoc h (by rw[hl];omega) (by omega)) (by simp) (by rw[List.length_append];simp;omega)
theorem gs_up(s:Sp):Up (gs s) 0∧(gs s).length≤4∧(gg s=0→gs s≠[]):=by
 unfold gs;by_cases h:gg s=0
 ·rw[if_pos h]
  obtain⟨h1,h2⟩:=made_up s 4 [] 0 trivial rfl rfl;refine⟨h1,h2,fun _=> ?_⟩;have hn:=near_in (at_ s 0) 0 60 (by omega);have hlen:∀m l last,l.length≤(made s m l last).length:=by
   intro m
   induction m with
   |zero=>intro l last;exact Nat.le_refl _
   |succ m ih=>
    intro l last;unfold made;simp only;generalize near (at_ s (3 -m)) 0 60+(if 3 -m=0 then 1 else 0)=t;by_cases hc:t=0∨100<last+t
    ·rw[if_pos hc];exact Nat.le_refl _
    ·rw[if_neg hc]
     have:=ih (l++[last+t]) (last+t);rw[List.length_append]at this;simp at this;omega
  unfold made;simp only[Nat.sub_self];rw[if_neg (by simp;omega)];intro e;have:=hlen 3 ([]++[0+(near (at_ s 0) 0 60+1)]) (0+(near (at_ s 0) 0 60+1));simp at this e;rw[e]at this;simp at this
 ·rw[if_neg h]
  exact⟨trivial,by simp,fun e=>absurd e h⟩
theorem good_may(s:Sp):May (good s):=by
 obtain⟨h1,h2,h3⟩:=gs_up s;have nv:=near_in s.v 1 6 (by omega);have nd:=near_in s.d 1 5 (by omega);have ng:=near_in s.g 0 3 (by omega);have nu:=near_in s.u 0 4 (by omega);have nu2:=near_in s.u 0 2 (by omega);have nw:=near_in s.w 1 9 (by omega);have nx:=near_in s.x 0 4 (by omega);have nk:=near_in s.k 1 60 (by omega);have nn:=near_in s.n 0 (gd s+1) (by unfold gd;omega);have hu:0≤gu s∧gu s≤11 -(5 -gd s)∧(gg s=2→gd s≤gu s):=by
  unfold gu gd gg at*;split<;>omega
 have hn:0≤gn s∧gn s≤gd s∧¬(gn s=0∧gu s=0):=by
  unfold gn;split<;>rename_i hc<;>(unfold gd at*;omega)
 have hst:∀i,i<4→st (good s) i=true:=by
  intro i hi;have hg:(good s).g=gg s:=rfl;have ha:∀j,at_ (good s) j=[(gs s).getD 0 0,(gs s).getD 1 0,(gs s).getD 2 0,(gs s).getD 3 0].getD j 0:=fun _=>rfl;have ha0:(good s).a=(gs s).getD 0 0:=rfl;unfold st;rw[hg,ha,ha,ha0];by_cases h:gg s=0
  ·rw[if_neg (by omega)]
   have hne:=h3 h
   match hgs:gs s,h1,h2,hne with
   |[],_,_,hne=>exact absurd rfl hne
   |[y0],hu,_,_=>
    obtain⟨u1,u2,_⟩:=hu;rcases i with _|_|_|_|i<;>simp[inn_iff]<;>omega
   |[y0,y1],hu,_,_=>
    obtain⟨u1,u2,u3,u4,_⟩:=hu;rcases i with _|_|_|_|i<;>simp[inn_iff]<;>omega
   |[y0,y1,y2],hu,_,_=>
    obtain⟨u1,u2,u3,u4,u5,u6,_⟩:=hu;rcases i with _|_|_|_|i<;>simp[inn_iff]<;>omega
   |[y0,y1,y2,y3],hu,_,_=>
    obtain⟨u1,u2,u3,u4,u5,u6,u7,u8,_⟩:=hu;rcases i with _|_|_|_|i<;>simp[inn_iff]<;>omega
   |_::_::_::_::_::_,_,hl,_=>exact absurd hl (by simp)
  ·rw[if_pos h]
   have e:gs s=[]:=by unfold gs;rw[if_neg h]
   rw[e];rcases i with _|_|_|_|i<;>simp<;>omega
 refine⟨?_,?_,?_,?_,?_,hst 0 (by omega),hst 1 (by omega),hst 2 (by omega),hst 3 (by omega),?_,?_,?_⟩
 ·show 1≤near s.v 1 6∧near s.v 1 6≤1048576;omega
 ·show 1≤gd s∧gd s≤16;unfold gd;omega
 ·show 0≤gu s∧gu s≤16 -gd s;unfold gd at*;omega
 ·exact hn
 ·show 0≤gg s∧gg s≤2∧¬(gg s=2∧gu s<gd s);unfold gg at*;omega
 ·show 1≤near s.w 1 9∧near s.w 1 9≤1048576;omega
 ·show 0≤near s.x 0 4∧near s.x 0 4≤1048576;omega
 ·show 1≤near s.k 1 60∧near s.k 1 60≤1048576;omega
end Spc
open Go.RowKit
def sb(s:ByteArray):List Nat:=s.data.toList.map UInt8.toNat
theorem jbh(s:ByteArray):(sb s).length=s.size:=by simp[sb]
theorem jh6(s:ByteArray):∀x∈sb s,x<256:=by
 intro x hx;simp only[sb,List.mem_map]at hx;obtain⟨b,_,rfl⟩:=hx;exact b.toNat_lt
theorem jlh(s:ByteArray):txt (sb s)=s:=by
 have:(txt (sb s)).data.toList=s.data.toList:=by
  rw[jbo,sb,List.map_map]
  conv=>rhs;rw[←List.map_id s.data.toList]
  apply List.map_congr_left;intro x _;simp
 have h2:(txt (sb s)).data=s.data:=by rw[←Array.toList_inj];exact this
 cases s
 generalize txt _=t at*
 cases t
 simp_all
end Go.Proofs.YtabandbigckfkaaGreatDoor
namespace Go.Proofs.YtabandbigckfkaaGreatDoor
namespace Rc
structure R where
 kind:Int
 epoch:Int
 who:Int
 n:Int
 seq:Int
 text:ByteArray
 sp:Spc.Sp
def none_:R:=⟨0,0,0,0,0,⟨#[]⟩,Spc.zero⟩
def nums(r:R):List Int:=[r.kind,r.epoch,r.who,r.n,r.seq]
structure In(r:R):Prop where
 nums:∀x∈nums r,Spc.i64 x
 text:r.text.size≤maxLen
 sp:Spc.In r.sp
theorem ext{r s:R}(h1:nums r=nums s)(h2:r.text=s.text)(h3:r.sp=s.sp):r=s:=by
 cases r;cases s
 simp only[nums,List.cons.injEq,and_true]at h1;obtain⟨a,b,c,d,e⟩:=h1;simp only at h2 h3;subst a b c d e h2 h3;rfl
def bare(r:R):Bool:=decide (r.text.size=0)
def told(r:R):Bool:=decide (1≤r.text.size)&&decide (r.text.size≤64)
def plain(r:R):Bool:=decide (Spc.flds r.sp=Spc.flds Spc.zero)
theorem plain_iff{r:R}:plain r=true↔r.sp=Spc.zero:=by
 unfold plain;rw[decide_eq_true_eq];exact⟨Spc.flds_inj,fun h=>by rw[h]⟩
def right(r:R):Bool:=
 Spc.inn r.epoch 1 1099511627776&&
 (if r.kind=1 then plain r&&(bare r&&(Spc.inn r.who 0 63&&(Spc.inn r.n 0 1099511627776&&Spc.inn r.seq 1 1048576)))
  else if r.kind=2 then plain r&&(told r&&(decide (r.who=0)&&(Spc.inn r.n 1 1048576&&decide (r.seq=0))))
  else if r.kind=3 then bare r&&(decide (r.who=0)&&(Spc.inn r.n 0 1099511627776&&(decide (r.seq=0)&&decide (Spc.chk r.sp=0))))
  else if r.kind=4 then plain r&&(told r&&(decide (r.who=0)&&(Spc.inn r.n 1 5&&decide (r.seq=0))))
  else if r.kind=5 then plain r&&(bare r&&(Spc.inn r.who 0 15&&(Spc.inn r.n 0 1048576&&Spc.inn r.seq 1 1099511627776)))
  else if r.kind=6 then plain r&&(bare r&&(Spc.inn r.who 0 15&&(decide (r.n=0)&&Spc.inn r.seq 1 1099511627776)))
  else if r.kind=7 then plain r&&(told r&&(Spc.inn r.who 1 4&&(Spc.inn r.n 0 1099511627776&&decide (r.seq=0))))
  else false)
structure Ok(r:R):Prop where
 kind:1≤r.kind∧r.kind≤7
 epoch:1≤r.epoch∧r.epoch≤1099511627776
 who:0≤r.who∧r.who≤63
 n:0≤r.n∧r.n≤1099511627776
 seq:0≤r.seq∧r.seq≤1099511627776
 text:r.text.size≤64
 begin_:r.kind=3→Spc.May r.sp
 other:r.kind≠3→r.sp=Spc.zero
theorem bare_iff{r:R}:bare r=true↔r.text.size=0:=by unfold bare;simp
theorem told_iff{r:R}:told r=true↔1≤r.text.size∧r.text.size≤64:=by unfold told;simp
theorem ok_of{r:R}(h:right r=true):Ok r:=by
 unfold right at h;rw[Bool.and_eq_true]at h;obtain⟨he,h⟩:=h;have he:=Spc.inn_iff.1 he;split at h
 ·rename_i hk
  simp only[Bool.and_eq_true,decide_eq_true_eq,Spc.inn_iff,plain_iff,bare_iff]at h;obtain⟨h1,h2,h3,h4,h5⟩:=h;exact⟨by omega,he,by omega,by omega,by omega,by omega,fun h=>by omega,fun _=>h1⟩
 split at h
 ·simp only[Bool.and_eq_true,decide_eq_true_eq,Spc.inn_iff,plain_iff,told_iff]at h
  obtain⟨h1,h2,h3,h4,h5⟩:=h;exact⟨by omega,he,by omega,by omega,by omega,by omega,fun h=>by omega,fun _=>h1⟩
 split at h
 ·simp only[Bool.and_eq_true,decide_eq_true_eq,Spc.inn_iff,bare_iff]at h
  obtain⟨h1,h2,h3,h4,h5⟩:=h;exact⟨by omega,he,by omega,by omega,by omega,by omega,fun _=>Spc.may_of h5,fun h=>by omega⟩
 split at h
 ·simp only[Bool.and_eq_true,decide_eq_true_eq,Spc.inn_iff,plain_iff,told_iff]at h
  obtain⟨h1,h2,h3,h4,h5⟩:=h;exact⟨by omega,he,by omega,by omega,by omega,by omega,fun h=>by omega,fun _=>h1⟩
 split at h
 ·simp only[Bool.and_eq_true,decide_eq_true_eq,Spc.inn_iff,plain_iff,bare_iff]at h
  obtain⟨h1,h2,h3,h4,h5⟩:=h;exact⟨by omega,he,by omega,by omega,by omega,by omega,fun h=>by omega,fun _=>h1⟩
 split at h
 ·simp only[Bool.and_eq_true,decide_eq_true_eq,Spc.inn_iff,plain_iff,bare_iff]at h
  obtain⟨h1,h2,h3,h4,h5⟩:=h;exact⟨by omega,he,by omega,by omega,by omega,by omega,fun h=>by omega,fun _=>h1⟩
 split at h
 ·simp only[Bool.and_eq_true,decide_eq_true_eq,Spc.inn_iff,plain_iff,told_iff]at h
  obtain⟨h1,h2,h3,h4,h5⟩:=h;exact⟨by omega,he,by omega,by omega,by omega,by omega,fun h=>by omega,fun _=>h1⟩
 ·cases h
theorem Ok.nums{r:R}(h:Ok r):∀x∈nums r,0≤x∧x≤1099511627776:=by
 intro x hx;have:=h.kind;have:=h.epoch;have:=h.who;have:=h.n;have:=h.seq;simp only[Rc.nums,List.mem_cons,List.not_mem_nil,or_false]at hx;rcases hx with rfl|rfl|rfl|rfl|rfl<;>omega
theorem Ok.flds{r:R}(h:Ok r):∀x∈Spc.flds r.sp,0≤x∧x≤1099511627776:=by
 intro x hx;by_cases hk:r.kind=3
 ·have:=(h.begin_ hk).small x hx;omega
 ·rw[h.other hk]at hx
  simp[Spc.flds,Spc.zero]at hx;omega
def short(t:ByteArray):ByteArray:=txt (116::(sb t).take 20)
def good(r:R):R:=
 let k:=Spc.near r.kind 1 7
 let e:=Spc.near r.epoch 1 9
 if k=1 then⟨k,e,Spc.near r.who 0 4,Spc.near r.n 0 50,Spc.near r.seq 1 20,⟨#[]⟩,Spc.zero⟩
 else if k=2 then⟨k,e,0,Spc.near r.n 1 6,0,short r.text,Spc.zero⟩
 else if k=3 then⟨k,e,0,Spc.near r.n 0 50,0,⟨#[]⟩,Spc.good r.sp⟩
 else if k=4 then⟨k,e,0,Spc.near r.n 1 5,0,short r.text,Spc.zero⟩
 else if k=5 then⟨k,e,Spc.near r.who 0 16,Spc.near r.n 0 7,Spc.near r.seq 1 9,⟨#[]⟩,Spc.zero⟩
 else if k=6 then⟨k,e,Spc.near r.who 0 16,0,Spc.near r.seq 1 9,⟨#[]⟩,Spc.zero⟩
 else⟨k,e,Spc.near r.who 1 4,Spc.near r.n 0 50,0,short r.text,Spc.zero⟩
theorem short_size(t:ByteArray):1≤(short t).size∧(short t).size≤64:=by
 unfold short;rw[jbx,List.length_cons,List.length_take];omega
theorem good_right(r:R):right (good r)=true:=by
 have nk:=Spc.near_in r.kind 1 7 (by omega);have ne:=Spc.near_in r.epoch 1 9 (by omega);have w4:=Spc.near_in r.who 0 4 (by omega);have w6:=Spc.near_in r.who 0 16 (by omega);have w1:=Spc.near_in r.who 1 4 (by omega);have n5:=Spc.near_in r.n 0 50 (by omega);have n6:=Spc.near_in r.n 1 6 (by omega);have n4:=Spc.near_in r.n 1 5 (by omega);have n7:=Spc.near_in r.n 0 7 (by omega);have q2:=Spc.near_in r.seq 1 20 (by omega);have q9:=Spc.near_in r.seq 1 9 (by omega);have st:=short_size r.text;have gm:=Spc.good_may r.sp;have gc:Spc.chk (Spc.good r.sp)=0:=Spc.chk_of gm;have e0:(⟨#[]⟩:ByteArray).size=0:=rfl;unfold good;simp only;generalize Spc.near r.kind 1 7=k at*;generalize Spc.near r.epoch 1 9=e at*;have hk:k=1∨k=2∨k=3∨k=4∨k=5∨k=6∨k=7:=by omega
 unfold right plain bare told;rcases hk with rfl|rfl|rfl|rfl|rfl|rfl|rfl
 all_goals
  simp only[Bool.and_eq_true,decide_eq_true_eq,Spc.inn_iff,if_true,if_neg (show¬(2:Int)=1 by omega),if_neg (show¬(3:Int)=1 by omega),if_neg (show¬(3:Int)=2 by omega),if_neg (show¬(4:Int)=1 by omega),if_neg (show¬(4:Int)=2 by omega),if_neg (show¬(4:Int)=3 by omega),if_neg (show¬(5:Int)=1 by omega),if_neg (show¬(5:Int)=2 by omega),if_neg (show¬(5:Int)=3 by omega),if_neg (show¬(5:Int)=4 by omega),if_neg (show¬(6:Int)=1 by omega),if_neg (show¬(6:Int)=2 by omega),if_neg (show¬(6:Int)=3 by omega),if_neg (show¬(6:Int)=4 by omega),if_neg (show¬(6:Int)=5 by omega),if_neg (show¬(7:Int)=1 by omega),if_neg (show¬(7:Int)=2 by omega),if_neg (show¬(7:Int)=3 by omega),if_neg (show¬(7:Int)=4 by omega),if_neg (show¬(7:Int)=5 by omega),if_neg (show¬(7:Int)=6 by omega)];simp only[true_and,and_true,e0,gc];omega
end Rc
theorem Rc.none_in:Rc.In Rc.none_:=by
 refine⟨?_,by decide,?_⟩
 ·intro x hx
  simp[Rc.nums,Rc.none_]at hx;unfold Spc.i64;omega
 ·intro x hx
  simp[Spc.flds,Rc.none_,Spc.zero]at hx;unfold Spc.i64;omega
theorem Rc.ok_in{r:Rc.R}(h:Rc.Ok r):Rc.In r:=by
 refine⟨fun x hx=> ?_,by have:=h.text;unfold maxLen;omega,fun x hx=> ?_⟩
 ·have:=h.nums x hx;unfold Spc.i64;omega
 ·have:=h.flds x hx;unfold Spc.i64;omega
open Go.RowKit
theorem jek:(Tryz.prog.info? 3).map (fun i=>(i.zero,i.size,i.bytes))=some (some (.int .i64 0),1,8):=by kernel_rfl
def vali(l:List Int):List Value:=l.map fun x=> .int .i64 x
theorem jh7(a b:List Int):vali (a++b)=vali a++vali b:=by simp[vali]
theorem vali_at{l:List Int}{j:Nat}(h:j<l.length):(vali l)[j]? =some (.int .i64 (l.getD j 0)):=by
 rw[jak h];simp[vali,h]
structure SlI(w:World)(A:Option Addr)(n c:Nat)(l:List Int):Prop where
 rd:0<l.length→∃b o,A=some ⟨b,o,none⟩∧b<w.heap.size∧∀j,j<l.length→w.cell? ⟨b,o+j,none⟩=some (.int .i64 (l.getD j 0))
 len:n=l.length
 cap:n≤c
 max:c≤maxLen
theorem SlI.on{w w':World}{A:Option Addr}{n c:Nat}{l:List Int}(h:SlI w A n c l)(hb:Below w.heap.size w w'):SlI w' A n c l:=
 ⟨fun hl=>by
  obtain⟨b,o,e,h1,h2⟩:=h.rd hl;exact⟨b,o,e,Nat.lt_of_lt_of_le h1 hb.size,fun j hj=>(hb.cell (p:=⟨b,o+j,none⟩) h1).trans (h2 j hj)⟩,h.len,h.cap,h.max⟩
theorem SlI.none_(w:World):SlI w none 0 0 []:=⟨by simp,rfl,Nat.le_refl _,Nat.zero_le _⟩
def OwnI(w:World)(B:Nat)(v:Value)(l:List Int):Prop:=w.ownsRow B 3 1 v l.length (vali l)
theorem OwnI.sl{w:World}{B:Nat}{v:Value}{l:List Int}(h:OwnI w B v l):∃A c,v= .slice A l.length c∧SlI w A l.length c l:=by
 rcases World.ownsRow.lt h with _
 rcases h.2 with⟨rfl,h0⟩|⟨g,cap,cur,rfl,_,hg,h1,h2,_⟩
 ·have hl:l=[]:=by simpa using h0
  subst hl;exact⟨none,0,rfl,SlI.none_ w⟩
 ·refine⟨_,cap,rfl,fun h0=>⟨g,0,rfl,(Array.getElem?_eq_some_iff.1 hg).1,fun j hj=> ?_⟩,rfl,h1,h2⟩
  rw[Nat.zero_add,World.ownsRow.cellAt h j (by omega),vali_at hj]
theorem OwnI.below{w w':World}{B:Nat}{v:Value}{l:List Int}(h:OwnI w B v l)(hb:Below w.heap.size w w'):OwnI w' B v l:=jb7 h hb
theorem jan{w:World}{ops:Array Oper}{rest:List Oper}{op:Oper}{a:Act}{Q:Exit→Act→World→Prop}(hgd:op.guard=none)(s x:Operand)
  (ho:op.op= .call {callee:= .builtin .append,args:=#[s,x],argTypes:=#[137,137]})
  (base:Nat) (v:Value) (l:List Int) (hs:a.eval s=v) (hown:OwnI w base v l) (X:Int) (hx:a.eval x= .slice (some ⟨w.heap.size,0,none⟩) 1 1)
  (hl:l.length≤3000000) (hB:base≤w.heap.size)
  (h:∀v' w',OwnI w' base v' (l++[X])→w.grownBy w' v.ownBlock→wpList Tryz.prog ops Q rest (a.put op.dst v') w'):wpList Tryz.prog ops Q (op::rest) a (w.alloc (.cells #[.int .i64 X] 3)):=by
 obtain⟨i0,hi0,hz0,hz1,hz2⟩:=info_parts jek;refine wpList_append_own _ hgd s x 137 ho base 3 i0 (.int .i64 0) 1 8 Tryz.underlying137 hi0 hz0 hz1 hz2 rfl (by decide) v l.length (vali l) hs (World.ownsRow.alloc hown _) ⟨w.heap.size,0,none⟩ 1 1 [.int .i64 X] hx rfl ?_ ?_ (by unfold maxLen;omega) (by omega) (by simp;omega) ?_
 ·intro j u hu
  rcases j with _|j
  ·simp at hu;subst hu
   have:((⟨w.heap.size,0,none⟩:Addr).add 0)=⟨w.heap.size,0,none⟩:=by unfold Addr.add;split<;>simp_all
   rw[this,World.cell?_alloc_at _ _ _ _ rfl];rfl
  ·simp at hu
 ·intro u hu;simp at hu;subst hu;rfl
 ·intro v' w' h1 h2 _
  refine h v' w' ?_ (jam (World.grownBy_alloc w _ _) h2);unfold OwnI;rw[jh7,List.length_append];exact h1
end Go.Proofs.YtabandbigckfkaaGreatDoor
namespace Go.Proofs.YtabandbigckfkaaGreatDoor.Cdc
def digs(n:Nat):List Nat:=if n<128 then[n]else(n%128+128)::digs (n/128)
termination_by n
decreasing_by omega
theorem digs_lt{n:Nat}(h:n<128):digs n=[n]:=by rw[digs,if_pos h]
theorem digs_ge{n:Nat}(h:128≤n):digs n=(n%128+128)::digs (n/128):=by rw[digs,if_neg (by omega)]
theorem digs_ind{p:Nat→Prop}(a:∀n,n<128→p n)(b:∀n,128≤n→p (n/128)→p n)(n:Nat):p n:=by
 induction n using Nat.strongRecOn with
 |_ n ih=>
  by_cases h:n<128
  ·exact a n h
  ·exact b n (by omega) (ih _ (by omega))
theorem digs_byte(n:Nat):∀x∈digs n,x<256:=by
 refine digs_ind (p:=fun n=>∀x∈digs n,x<256) ?_ ?_ n
 ·intro n h x hx;rw[digs_lt h]at hx;simp at hx;omega
 ·intro n h ih x hx
  rw[digs_ge h]at hx;rcases List.mem_cons.1 hx with rfl|hx
  ·omega
  ·exact ih x hx
theorem digs_pos(n:Nat):1≤(digs n).length:=by
 rw[digs];split<;>simp
theorem digs_le{n k:Nat}(hk:1≤k)(h:n<128^k):(digs n).length≤k:=by
 induction k generalizing n with
 |zero=>omega
 |succ k ih=>
  by_cases hn:n<128
  ·rw[digs_lt hn];simp
  ·rw[digs_ge (by omega),List.length_cons]
   have:n/128<128^k:=by rw[Nat.pow_succ]at h;omega
   rcases k with _|k
   ·simp at this;omega
   ·have:=ih (by omega) this;omega
theorem digs_nine{n:Nat}(h:n<9223372036854775808):(digs n).length≤9:=digs_le (by omega) (by rw[show(128:Nat)^9=9223372036854775808 from by decide];exact h)
def val:List Nat→Nat
 |[]=>0
 |x::l=>x%128+128*val l
theorem val_digs(n:Nat):val (digs n)=n:=by
 refine digs_ind (p:=fun n=>val (digs n)=n) ?_ ?_ n
 ·intro n h;rw[digs_lt h];simp only[val];omega
 ·intro n h ih;rw[digs_ge h];simp only[val,ih];omega
theorem val_lt(l:List Nat):val l<128^l.length:=by
 induction l with
 |nil=>simp[val]
 |cons x l ih=>rw[val,List.length_cons,Nat.pow_succ];omega
theorem val_snoc(l:List Nat)(x:Nat):val (l++[x])=val l+x%128*128^l.length:=by
 induction l with
 |nil=>simp[val]
 |cons y l ih=>
  have e:x%128*(128^l.length*128)=128*(x%128*128^l.length):=by rw[←Nat.mul_assoc,Nat.mul_comm]
  rw[List.cons_append,val,ih,val,List.length_cons,Nat.pow_succ,e,Nat.mul_add];omega
def run:List Nat→Nat
 |[]=>0
 |x::l=>if 128≤x then run l+1 else 0
theorem run_of{l:List Nat}{k:Nat}(h:∀j,j<k→128≤l.getD j 0)(hk:k<l.length)(hl:l.getD k 0<128):run l=k:=by
 induction l generalizing k with
 |nil=>simp at hk
 |cons x l ih=>
  rcases k with _|k
  ·simp at hl;rw[run,if_neg (by omega)]
  ·have h0:=h 0 (by omega)
   simp at h0;rw[run,if_pos h0,ih (k:=k) (fun j hj=>by have:=h (j+1) (by omega);simpa using this) (by simpa using hk) (by simpa using hl)]
theorem run_ge{l:List Nat}{k:Nat}(h:∀j,j<k→128≤l.getD j 0):k≤run l:=by
 induction l generalizing k with
 |nil=>
  rcases k with _|k
  ·omega
  ·have:=h 0 (by omega);simp at this
 |cons x l ih=>
  rcases k with _|k
  ·omega
  ·have h0:=h 0 (by omega)
   simp at h0;rw[run,if_pos h0];have:=ih (k:=k) (fun j hj=>by have:=h (j+1) (by omega);simpa using this);omega
def isNum(l:List Nat):Bool:=decide (run l<l.length)&&decide (run l<9)&&decide ((digs (val (l.take (run l+1)))).length=run l+1)&&decide (val (l.take (run l+1))<4611686018427387904)
def dk(l:List Nat):Nat:=if isNum l then run l+1 else 0
def dn(l:List Nat):Nat:=if isNum l then val (l.take (run l+1))else 0
theorem dk_le(l:List Nat):dk l≤l.length:=by
 unfold dk;split
 ·rename_i h;simp[isNum]at h;omega
 ·omega
theorem dn_lt(l:List Nat):dn l<4611686018427387904:=by
 unfold dn;split
 ·rename_i h;simp[isNum]at h;omega
 ·omega
theorem dn_none{l:List Nat}(h:dk l=0):dn l=0:=by
 unfold dk at h;unfold dn;split
 ·rename_i h1;rw[if_pos h1]at h;omega
 ·rfl
theorem digs_val(l:List Nat)(hb:∀x∈l,x<256)(hr:run l<l.length):(digs (val (l.take (run l+1)))).length≤run l+1∧((digs (val (l.take (run l+1)))).length=run l+1→digs (val (l.take (run l+1)))=l.take (run l+1)):=by
 induction l with
 |nil=>simp[run]at hr
 |cons x l ih=>
  rw[run]at hr⊢;have hx:=hb x (by simp);by_cases h:128≤x
  ·rw[if_pos h]at hr⊢
   rw[List.take_succ_cons,val];have ih:=ih (fun y hy=>hb y (by simp[hy])) (by simpa using hr);generalize l.take (run l+1)=q at*;by_cases hq:val q=0
   ·rw[hq,digs_lt (by omega)]
    refine⟨by simp,fun h=>by simp at h⟩
   ·rw[digs_ge (by omega),show(x%128+128*val q)/128=val q by omega,show(x%128+128*val q)%128+128=x by omega]
    refine⟨by simp;omega,fun h=>by rw[ih.2 (by simp at h;omega)]⟩
  ·rw[if_neg h]
   rw[List.take_succ_cons,List.take_zero,val,val];rw[digs_lt (by omega)];refine⟨by simp,fun _=>by rw[show x%128+128*0=x by omega]⟩
theorem run_digs(n:Nat)(r:List Nat):run (digs n++r)+1=(digs n).length:=by
 refine digs_ind (p:=fun n=>run (digs n++r)+1=(digs n).length) ?_ ?_ n
 ·intro n h;rw[digs_lt h,List.cons_append,run,if_neg (by omega)];simp
 ·intro n h ih;rw[digs_ge h,List.cons_append,run,if_pos (by omega),List.length_cons,ih]
theorem isNum_digs{n:Nat}(h:n<4611686018427387904)(r:List Nat):isNum (digs n++r)=true:=by
 have h1:=run_digs n r;have h2:(digs n++r).take (run (digs n++r)+1)=digs n:=by rw[h1];exact List.take_left
 have h3:=digs_nine (n:=n) (by omega);simp only[isNum,h2,val_digs,Bool.and_eq_true,decide_eq_true_eq,List.length_append];omega
theorem dk_digs{n:Nat}(h:n<4611686018427387904)(r:List Nat):dk (digs n++r)=(digs n).length:=by
 unfold dk;rw[if_pos (isNum_digs h r),run_digs]
theorem dn_digs{n:Nat}(h:n<4611686018427387904)(r:List Nat):dn (digs n++r)=n:=by
 unfold dn;rw[if_pos (isNum_digs h r),run_digs,List.take_left,val_digs]
theorem digs_dn{l:List Nat}(hb:∀x∈l,x<256)(h:dk l≠0):digs (dn l)=l.take (dk l):=by
 unfold dk dn at*;by_cases h1:isNum l=true
 ·rw[if_pos h1,if_pos h1]
  simp only[isNum,Bool.and_eq_true,decide_eq_true_eq]at h1;exact(digs_val l hb (by omega)).2 (by omega)
 ·rw[if_neg h1]at h;omega
structure St where
 l:List Nat
 e:Int
def lost:St:=⟨[],2⟩
def num(s:St):St:=if s.e=0 then(if dk s.l=0 then lost else⟨s.l.drop (dk s.l),0⟩)else s
def numV(s:St):Nat:=if s.e=0 then dn s.l else 0
def cnt(s:St):St:=if numV s≤64 then num s else lost
def cntV(s:St):Nat:=if numV s≤64 then numV s else 0
def tk(s:St)(n:Nat):St:=if s.e=0 then(if n≤s.l.length then⟨s.l.drop n,0⟩else lost)else s
def tkV(s:St)(n:Nat):List Nat:=if s.e=0 then(if n≤s.l.length then s.l.take n else[])else[]
def text(s:St):St:=tk (cnt s) (cntV s)
def textV(s:St):List Nat:=tkV (cnt s) (cntV s)
def numsAt(s:St):Nat→St
 |0=>s
 |k+1=>num (numsAt s k)
def numsV(s:St):Nat→List Nat
 |0=>[]
 |k+1=>numsV s k++[numV (numsAt s k)]
def list(s:St):St:=numsAt (cnt s) (cntV s)
def listV(s:St):List Nat:=if(list s).e=0 then numsV (cnt s) (cntV s)else[]
def endE(s:St):Int:=if 0<s.l.length then 2 else s.e
structure Okay(s:St):Prop where
 byte:∀x∈s.l,x<256
 none_:s.e≠0→s.l=[]
theorem numV_lt(s:St):numV s<4611686018427387904:=by
 unfold numV;split
 ·exact dn_lt _
 ·omega
theorem cntV_le(s:St):cntV s≤64:=by unfold cntV;split<;>omega
theorem num_err{s:St}(h:s.e≠0):num s=s:=by unfold num;rw[if_neg h]
theorem numV_err{s:St}(h:s.e≠0):numV s=0:=by unfold numV;rw[if_neg h]
theorem numsAt_err{s:St}{i:Nat}(h:(numsAt s i).e≠0)(j:Nat):numsAt s (i+j)=numsAt s i:=by
 induction j with
 |zero=>rfl
 |succ j ih=>rw[←Nat.add_assoc,numsAt,ih,num_err h]
theorem numsV_length(s:St)(k:Nat):(numsV s k).length=k:=by
 induction k with
 |zero=>rfl
 |succ k ih=>simp[numsV,ih]
theorem num_digs{n:Nat}(h:n<4611686018427387904)(r:List Nat):num ⟨digs n++r,0⟩=⟨r,0⟩∧numV ⟨digs n++r,0⟩=n:=by
 unfold num numV;simp only[if_pos,dn_digs h,dk_digs h,and_true];rw[if_neg (by have:=digs_pos n;omega),List.drop_left]
theorem numsAt_all(ns:List Nat)(h:∀n∈ns,n<4611686018427387904)(r:List Nat)(k:Nat)(hk:k≤ns.length):numsAt ⟨(ns.flatMap digs)++r,0⟩ k=⟨((ns.drop k).flatMap digs)++r,0⟩∧numsV ⟨(ns.flatMap digs)++r,0⟩ k=ns.take k:=by
 induction k with
 |zero=>exact⟨by simp[numsAt],by simp[numsV]⟩
 |succ k ih=>
  obtain⟨h1,h2⟩:=ih (by omega);have hk':k<ns.length:=by omega
  have h3:=num_digs (h ns[k] (List.getElem_mem hk')) ((ns.drop (k+1)).flatMap digs++r);rw[numsAt,numsV,h1,h2,List.drop_eq_getElem_cons hk',List.flatMap_cons,List.append_assoc,h3.1,h3.2];exact⟨rfl,by rw[List.take_succ_eq_append_getElem hk']⟩
end Go.Proofs.YtabandbigckfkaaGreatDoor.Cdc
namespace Go.Proofs.YtabandbigckfkaaGreatDoor
open Go.RowKit Cdc
def sz(n:Int):Nat:=if 0≤n∧n<4611686018427387904 then(digs n.toNat).length else 0
theorem sz_no{n:Int}(h:n<0∨4611686018427387903<n):sz n=0:=by unfold sz;rw[if_neg (by omega)]
theorem sz_yes{n:Nat}(h:n<4611686018427387904):sz (n:Int)=(digs n).length:=by
 unfold sz;rw[if_pos (by omega),Int.toNat_natCast]
theorem jjb(n:Nat)(w:World)(h:n<4611686018427387904):
  Calls Tryz.prog 236 #[.int .i64 n] w fun e w'=>e= .returned (.int .i64 ((digs n).length:Nat))∧w=w':=by
 have h9:=digs_nine (n:=n) (by omega);have hb:(n:Int)≤4611686018427387903:=by omega
 have HN:=zh h;clear h;go_enter Tryz.func236,Tryz.ntmps236;go_wp2_with fail;clear hb;go_loop [0,3] (fun a s=>∃m k:Nat,a= .int .i64 m∧s= .int .i64 k∧k+(digs m).length=(digs n).length+1∧1≤k∧m<4611686018427387904) (fun a _=>(intOf a).toNat)
 case atStart=>exact⟨n,1,rfl,rfl,by omega,by omega,HN.out⟩
 case round=>
  obtain⟨m,k,rfl,rfl,hk,hk1,hm⟩:=hrel;have HM:=zh hm;have hm2:(m:Int)≤4611686018427387903:=by omega
  clear hm;have hp:=digs_pos m;by_cases hlt:128≤m
  ·have hq:Hid (k+1+(digs (m/128)).length=(digs n).length+1):=by
    show _=_;rw[digs_ge hlt,List.length_cons]at hk;omega
   have hk9:k≤9:=by omega
   clear hk;go_wp2_with fail;go_round
   case rel=>exact⟨m/128,k+1,rfl,by go_num,hq.out,by omega,by have:=HM.out;omega⟩
   case measure=>simp[intOf];omega
  ·have hq:Hid (k=(digs n).length):=by
    show _=_;rw[digs_lt (by omega)]at hk;simp at hk;omega
   clear hk;go_wp2_with fail;go_ret;exact⟨jcc (by rw[hq.out]),rfl⟩
theorem jdo(n:Int)(w:World):
  Calls Tryz.prog 236 #[.int .i64 n] w fun e w'=>e= .returned (.int .i64 (sz n:Nat))∧w=w':=by
 by_cases h0:n<0
 ·rw[sz_no (.inl h0)]
  go_enter Tryz.func236,Tryz.ntmps236;go_wp2_with fail;go_ret;exact⟨rfl,rfl⟩
 ·by_cases h1:4611686018427387903<n
  ·rw[sz_no (.inr h1)]
   have h0':0≤n:=by omega
   go_enter Tryz.func236,Tryz.ntmps236;go_wp2_with fail;go_ret;exact⟨rfl,rfl⟩
  ·obtain⟨m,rfl⟩:∃m:Nat,n=(m:Int):=⟨n.toNat,by omega⟩
   rw[sz_yes (by omega)];exact jjb m w (by omega)
def jli(B:Nat)(l:List Nat)(w:World)(e:Ending)(w':World):Prop:=∃v,e= .returned v∧OwnB w' B v l∧Below B w w'
theorem jbi(n c more:Nat)(A:Option Addr)(l:List Nat)(w:World)(hs:Sl w A n c l)(hl:n≤1000000)(hm:more≤1000):
  Calls Tryz.prog 188 #[.slice A n c,.int .i64 more] w (jli w.heap.size l w):=by
 obtain⟨i0,hi0,hz0,hz1,hz2⟩:=info_parts jce;have HS:=zh hs;clear hs;have I0:=zh hi0;clear hi0;have I1:=zh hz0;clear hz0;have I2:=zh hz1;clear hz1;have I3:=zh hz2;clear hz2;go_enter Tryz.func188,Tryz.ntmps188
 go_wp2_with(first
  |(at_make;refine wpList_make_own _ rfl _ _ 58 rfl w.heap.size 5 i0 (.int .u8 0) 1 Tryz.underlying58 I0.out I1.out I2.out _ _ _ (n+more) rfl rfl (by omega) (by rw[I3.out];omega) (by unfold maxLen;omega) (Nat.le_refl _) ?_;intro w1 hown1 hg1;have O1:=zh hown1;have G1:=zh hg1;clear hown1 hg1)
  |(at_builtin;refine ja6 rfl (.tmp 9) (.tmp 10) _ rfl w.heap.size 5 i0 _ Tryz.underlying58 I0.out I1.out I2.out I3.out rfl (.slice (some ⟨w.heap.size,0,none⟩) 0 (n+more)) 0 [] rfl O1.out w1.heap.size n c A l rfl (HS.out.rd.on ((Below.refl _ _).grown G1.out (Nat.le_refl _) (by simp))) HS.out.len HS.out.nil (by omega) G1.out.size ?_;intro v2 w2 hown2 hg2;have O2:=zh hown2;have G2:=zh hg2;clear hown2 hg2))
 go_ret;have B1:=(Below.refl w.heap.size w).grown G1.out (Nat.le_refl _) (by simp);have hO:=O2.out;rw[Nat.zero_add,List.nil_append,HS.out.len]at hO;exact⟨v2,rfl,⟨hO,HS.out.rd.1⟩,B1.grown G2.out B1.size (by simp[Value.ownBlock])⟩
theorem jo6{l l':List Nat}{n m:Nat}(h:l'++digs m=l++digs n)(hm:128≤m):(l'++[m%128+128])++digs (m/128)=l++digs n:=by
 rw[←h,digs_ge hm,List.append_assoc];rfl
theorem jo7{l l':List Nat}{n m:Nat}(h:l'++digs m=l++digs n)(hm:m<128):l'++[m]=l++digs n:=by rw[←h,digs_lt hm]
theorem jgd(B n:Nat)(v:Value)(l:List Nat)(w:World)(ho:OwnB w B v l)(hB:B≤w.heap.size)(hl:l.length≤2000000)(hn:n<4611686018427387904):
  Calls Tryz.prog 237 #[v,.int .i64 n] w (jli B (l++digs n) w):=by
 have HO:=zh ho;clear ho;have h9:=digs_nine (n:=n) (by omega);have HL:Hid ((l++digs n).length≤2000009):=by show _≤_;rw[List.length_append];omega
 have HN:=zh hn;clear hn;have HB:=zh hB;clear hB;have HH:Hid (∀x∈l++digs n,x<256):=fun x hx=>(List.mem_append.1 hx).elim (HO.out.2 x) (digs_byte n x);go_enter Tryz.func237,Tryz.ntmps237;go_wp2_with fail;go_loopw [0,1] (fun v a wr=>∃(m:Nat) (l':List Nat),a= .int .i64 m∧(m:Int)≤4611686018427387903∧OwnB wr B v l'∧l'++digs m=l++digs n∧Below B w wr) (fun _ a _=>(intOf a).toNat)
 case atStart=>exact⟨n,l,rfl,by have:=HN.out;omega,HO.out,rfl,Below.refl _ _⟩
 case round=>
  obtain⟨m,l',rfl,hm,hO,hfull,hb⟩:=hrel;clear HO;have O:=zh hO;clear hO;have BB:=zh hb;clear hb;have FF:=zh hfull;clear hfull;have hlen:l'.length≤2000009:=by have h1:=HL.out;have h2:=FF.out;rw[←h2,List.length_append]at h1;omega
  by_cases hlt:128≤m
  ·go_wp2_with(at_builtin;refine jby rfl (.tmp 7) (.tmp 12) rfl B _ l' rfl O.out _ (m%128+128) (by omega) (by omega) rfl (by omega) (Nat.le_trans HB.out BB.out.size) ?_;intro v1 w1 ho1 hb1;have O1:=zh ho1;have B1:=zh (BB.out.trans hb1);clear ho1 hb1)
   go_roundw
   case rel=>exact⟨m/128,_,by go_num,by omega,O1.out,jo6 FF.out hlt,B1.out⟩
   case measure=>simp[intOf];omega
  ·go_wp2_with(at_builtin;refine jby rfl (.tmp 16) (.tmp 19) rfl B _ l' rfl O.out _ m (by omega) (by omega) rfl (by omega) (Nat.le_trans HB.out BB.out.size) ?_;intro v1 w1 ho1 hb1;have O1:=zh ho1;have B1:=zh (BB.out.trans hb1);clear ho1 hb1)
   go_ret;exact⟨v1,rfl,by rw[←jo7 FF.out (by omega)];exact O1.out,B1.out⟩
def jfl(l:List Nat)(err:Int)(w:World)(e:Ending)(w':World):Prop:=
 ∃A c,e= .returned (.tuple #[.slice A l.length c,.int .i64 err])∧Sl w' A l.length c l∧Below w.heap.size w w'∧∀a,A=some a→w.heap.size≤a.block
theorem jo8(s:ByteArray):Lib.strCells s=vals (sb s):=by
 simp[Lib.strCells,vals,sb]
theorem jj0(n c m:Nat)(A:Option Addr)(l:List Nat)(w:World)(hs:Sl w A n c l)(hl:n≤1000000)(hm:m<4611686018427387904):
  Calls Tryz.prog 174 #[.slice A n c,.int .i64 m] w (jfl (l++digs m) 0 w):=by
 have hne:(((digs m).length:Int)==0)=false:=by have:=digs_pos m;rw[beq_eq_false_iff_ne];omega
 have HS:=zh hs;clear hs;have HM:=zh hm;clear hm;go_enter Tryz.func174,Tryz.ntmps174;go_wp2_with fail;refine(jjb m w HM.out).mono ?_;rintro e w1 ⟨rfl,rfl⟩;go_wp2_with fail;refine(jbi n c 9 A l w HS.out hl (by omega)).mono ?_;rintro e w1 ⟨v,rfl,ho,hb⟩;have O:=zh ho;clear ho;have B:=zh hb;clear hb;go_wp2_with fail;refine(jgd w.heap.size m v l w1 O.out B.out.size (by rw[←HS.out.len];omega) HM.out).mono ?_;rintro e w2 ⟨v2,rfl,ho,hb⟩;have O2:=zh ho;clear ho;have B2:=zh hb;clear hb;obtain⟨A2,c2,hv,h2⟩:=O2.out.sl;have HV:=zh hv;clear hv;have H2:=zh h2;clear h2;go_wp2_with fail;go_ret2;rw[HV.out];exact⟨A2,c2,rfl,H2.out,B.out.trans B2.out,OwnB.far O2.out HV.out⟩
theorem jlj(n c:Nat)(m:Int)(A:Option Addr)(l:List Nat)(w:World)(hs:Sl w A n c l)(hl:n≤1000000)(hm:sz m=0):
  Calls Tryz.prog 174 #[.slice A n c,.int .i64 m] w (jfl l 1 w):=by
 have HS:=zh hs;clear hs;have HM:=zh hm;clear hm;go_enter Tryz.func174,Tryz.ntmps174;go_wp2_with fail;refine(jdo m w).mono ?_;rintro e w1 ⟨rfl,rfl⟩;rw[HM.out];go_wp2_with fail;refine(jbi n c 0 A l w HS.out hl (by omega)).mono ?_;rintro e w1 ⟨v,rfl,ho,hb⟩;have O:=zh ho;clear ho;have B:=zh hb;clear hb;obtain⟨A2,c2,hv,h2⟩:=O.out.sl;have HV:=zh hv;clear hv;have H2:=zh h2;clear h2;go_wp2_with fail;go_ret2;rw[HV.out];exact⟨A2,c2,rfl,H2.out,B.out,OwnB.far O.out HV.out⟩
def numL(l:List Nat)(n:Int):List Nat:=if sz n=0 then l else l++digs n.toNat
def numE(n:Int):Int:=if sz n=0 then 1 else 0
theorem jlk{n:Int}(h:sz n≠0):∃m:Nat,n=(m:Int)∧m<4611686018427387904:=by
 unfold sz at h;split at h
 ·exact⟨n.toNat,by omega,by omega⟩
 ·omega
theorem jj1(n c:Nat)(m:Int)(A:Option Addr)(l:List Nat)(w:World)(hs:Sl w A n c l)(hl:n≤1000000):
  Calls Tryz.prog 174 #[.slice A n c,.int .i64 m] w (jfl (numL l m) (numE m) w):=by
 unfold numL numE;by_cases h:sz m=0
 ·rw[if_pos h,if_pos h];exact jlj n c m A l w hs hl h
 ·rw[if_neg h,if_neg h]
  obtain⟨k,rfl,hk⟩:=jlk h;exact jj0 n c k A l w hs hl hk
theorem OwnB.text{w:World}{B n:Nat}{v:Value}{l:List Nat}{s:ByteArray}(h:w.ownsRow B 5 1 v (n+s.size) (vals l++Lib.strCells s))(hn:n=l.length)(hl:∀y∈l,y<256):OwnB w B v (l++sb s):=by
 subst hn;refine⟨?_,?_⟩
 ·rw[jbc,List.length_append,jbh,←jo8];exact h
 ·intro y hy
  exact(List.mem_append.1 hy).elim (hl y) (jh6 s y)
theorem jo9(n c:Nat)(s:ByteArray)(A:Option Addr)(l:List Nat)(w:World)(hs:Sl w A n c l)(hl:n≤1000000)(hm:s.size≤64):
  Calls Tryz.prog 175 #[.slice A n c,.string s] w (jfl (l++digs s.size++sb s) 0 w):=by
 obtain⟨i0,hi0,hz0,hz1,hz2⟩:=info_parts jce;have HS:=zh hs;clear hs;have I0:=zh hi0;clear hi0;have I1:=zh hz0;clear hz0;have I2:=zh hz1;clear hz1;have I3:=zh hz2;clear hz2;go_enter Tryz.func175,Tryz.ntmps175;go_wp2_with fail;refine(jbi n c (9+s.size) A l w HS.out hl (by omega)).mono ?_;rintro e w1 ⟨v,rfl,ho,hb⟩;have O:=zh ho;clear ho;have B:=zh hb;clear hb;go_wp2_with fail;refine(jgd w.heap.size s.size v l w1 O.out B.out.size (by rw[←HS.out.len];omega) (by omega)).mono ?_;rintro e w2 ⟨v2,rfl,ho,hb⟩;have O2:=zh ho;clear ho;have B2:=zh (B.out.trans hb);clear hb;have hlen:(l++digs s.size).length≤1000010:=by have:=digs_nine (n:=s.size) (by omega);rw[List.length_append,←HS.out.len];omega
 go_wp2_with(at_builtin;refine Lib.wpList_append_own_string _ rfl (.tmp 18) (.tmp 19) 58 9 rfl w.heap.size 5 i0 Tryz.underlying58 Tryz.underlying9 I0.out I1.out I2.out I3.out v2 _ _ rfl O2.out.1 s rfl (by unfold maxLen;omega) (by omega) B2.out.size ?_;intro v3 w3 hown3 hg3 _;have O3:=zh hown3;have G3:=zh hg3;clear hown3 hg3);go_ret2;obtain⟨A2,c2,hv,h2⟩:=(OwnB.text O3.out rfl O2.out.2).sl;rw[hv];exact⟨A2,c2,rfl,h2,B2.out.grown G3.out B2.out.size (ja3 O2.out.1),OwnB.far (OwnB.text O3.out rfl O2.out.2) hv⟩
theorem text_no(n c:Nat)(s:ByteArray)(A:Option Addr)(l:List Nat)(w:World)(hs:Sl w A n c l)(hl:n≤1000000)(hm:64<s.size):
  Calls Tryz.prog 175 #[.slice A n c,.string s] w (jfl l 12 w):=by
 have HS:=zh hs;clear hs;go_enter Tryz.func175,Tryz.ntmps175;go_wp2_with fail;refine(jbi n c 0 A l w HS.out hl (by omega)).mono ?_;rintro e w1 ⟨v,rfl,ho,hb⟩;have O:=zh ho;clear ho;have B:=zh hb;clear hb;obtain⟨A2,c2,hv,h2⟩:=O.out.sl;have HV:=zh hv;clear hv;have H2:=zh h2;clear h2;go_wp2_with fail;go_ret2;rw[HV.out];exact⟨A2,c2,rfl,H2.out,B.out,OwnB.far O.out HV.out⟩
def jpa(l:List Nat)(s:ByteArray):List Nat:=if s.size≤64 then l++digs s.size++sb s else l
def jpb(s:ByteArray):Int:=if s.size≤64 then 0 else 12
theorem jpc(n c:Nat)(s:ByteArray)(A:Option Addr)(l:List Nat)(w:World)(hs:Sl w A n c l)(hl:n≤1000000):
  Calls Tryz.prog 175 #[.slice A n c,.string s] w (jfl (jpa l s) (jpb s) w):=by
 unfold jpa jpb;by_cases h:s.size≤64
 ·rw[if_pos h,if_pos h];exact jo9 n c s A l w hs hl h
 ·rw[if_neg h,if_neg h];exact text_no n c s A l w hs hl (by omega)
def jb9(ns:List Int):Bool:=ns.all fun n=>decide (sz n≠0)
theorem jll{ns:List Int}(h:∀j,j<ns.length→sz (ns.getD j 0)≠0):jb9 ns=true:=by
 unfold jb9;rw[List.all_eq_true];intro x hx;obtain⟨j,hj,rfl⟩:=List.mem_iff_getElem.1 hx;have:=h j hj;rw[jak hj]at this;exact decide_eq_true this
theorem jpd{ns:List Int}{j:Nat}(hj:j<ns.length)(h:sz (ns.getD j 0)=0):jb9 ns=false:=by
 unfold jb9;rw[List.all_eq_false];refine⟨ns[j],List.getElem_mem hj,?_⟩;rw[jak hj]at h;simp[h]
theorem jel{ns:List Int}(h:jb9 ns=true){j:Nat}(hj:j<ns.length):∃m:Nat,ns.getD j 0=(m:Int)∧m<4611686018427387904:=by
 unfold jb9 at h;rw[List.all_eq_true]at h;have:=h ns[j] (List.getElem_mem hj);rw[jak hj];exact jlk (by simpa using this)
def fl(ns:List Int):List Nat:=ns.flatMap fun n=>digs n.toNat
theorem jh8{ns:List Int}{j m:Nat}(hj:j<ns.length)(hm:ns.getD j 0=(m:Int)):fl (ns.take (j+1))=fl (ns.take j)++digs m:=by
 unfold fl;rw[List.take_succ_eq_append_getElem hj,List.flatMap_append,←jak (d:=0) hj,hm];simp
theorem jlm{ns:List Int}(h:jb9 ns=true)(k:Nat)(hk:k≤ns.length):(fl (ns.take k)).length≤9*k:=by
 induction k with
 |zero=>simp[fl]
 |succ k ih=>
  obtain⟨m,hm,hlt⟩:=jel h (j:=k) (by omega);rw[jh8 (by omega) hm,List.length_append];have:=ih (by omega);have:=digs_nine (n:=m) (by omega);omega
theorem jln(n c:Nat)(A:Option Addr)(ns:List Int)(w:World)(hs:SlI w A n c ns)(hl:n≤1000000):
  Calls Tryz.prog 238 #[.slice A n c] w fun e w'=>e= .returned (.bool (jb9 ns))∧w=w':=by
 have HS:=zh hs;clear hs;go_enter Tryz.func238,Tryz.ntmps238;go_wp2_with fail;go_loop [7] (fun i=>∃k:Nat,k≤n∧i= .int .i64 k∧∀j,j<k→sz (ns.getD j 0)≠0) (fun i=>n -(intOf i).toNat)
 case atStart=>exact⟨0,by omega,rfl,fun j hj=>by omega⟩
 case round=>
  obtain⟨k,hk,rfl,hall⟩:=hrel;have HA:=zh hall;clear hall;by_cases hlt:k<n
  ·have hkl:k<ns.length:=by rw[←HS.out.len];exact hlt
   obtain⟨b,o,rfl,_,hc⟩:=HS.out.rd (by omega);have hck:=hc k hkl;clear hc;by_cases hz:sz (ns.getD k 0)=0
   ·have HZ:=zh hz
    have HN:=zh (jpd hkl hz);clear hz;generalize ns.getD k 0=x at*;go_wp2_with fail;refine(jdo x w).mono ?_;rintro e w1 ⟨rfl,rfl⟩;rw[HZ.out];go_wp2_with fail;go_ret;exact⟨jcx HN.out.symm,rfl⟩
   ·have hne:((sz (ns.getD k 0):Int)==0)=false:=by rw[beq_eq_false_iff_ne];omega
    have HZ:=zh hz;clear hz;have HG:Hid (∀j,j<k+1→sz (ns.getD j 0)≠0):=fun j hj=>by
     by_cases e:j=k
     ·subst e;exact HZ.out
     ·exact HA.out j (by omega)
    clear HA HZ;generalize ns.getD k 0=x at*;go_wp2_with fail;refine(jdo x w).mono ?_;rintro e w1 ⟨rfl,rfl⟩;go_wp2_with fail;go_round
    case rel=>exact⟨k+1,by omega,by go_num,HG.out⟩
    case measure=>simp[intOf];omega
  ·obtain rfl:k=n:=by omega
   have HN:Hid (jb9 ns=true):=jll fun j hj=>HA.out j (by rw[HS.out.len];exact hj);go_wp2_with fail;go_ret;exact⟨jcx HN.out.symm,rfl⟩
theorem own_all{w:World}{B m:Nat}{v:Value}{l:List Nat}{ns:List Int}(h:OwnB w B v (l++fl (ns.take m)))(hm:m=ns.length):OwnB w B v (l++fl ns):=by
 rwa [hm,List.take_length]at h
theorem jpe(n c k d:Nat)(A D:Option Addr)(l:List Nat)(ns:List Int)(w:World)(hs:Sl w A n c l)(hl:n≤1000000)(hd:SlI w D k d ns)(hk:k≤64)(ha:jb9 ns=true):
  Calls Tryz.prog 176 #[.slice A n c,.slice D k d] w (jfl (l++digs k++fl ns) 0 w):=by
 have HS:=zh hs;clear hs;have HD:=zh hd;clear hd;have HA:=zh ha;clear ha;go_enter Tryz.func176,Tryz.ntmps176;go_wp2_with fail;refine(jln k d D ns w HD.out (by omega)).mono ?_;rintro e w1 ⟨rfl,rfl⟩;rw[HA.out];go_wp2_with fail;refine(jbi n c (9*(1+k)) A l w HS.out hl (by omega)).mono ?_;rintro e w1 ⟨v,rfl,ho,hb⟩;have O:=zh ho;clear ho;have B:=zh hb;clear hb;go_wp2_with fail;refine(jgd w.heap.size k v l w1 O.out B.out.size (by rw[←HS.out.len];omega) (by omega)).mono ?_;rintro e w2 ⟨v2,rfl,ho,hb⟩;have O2:=zh ho;clear ho;have B2:=zh (B.out.trans hb);clear hb O B;have hlen:(l++digs k).length≤1000010:=by have:=digs_nine (n:=k) (by omega);rw[List.length_append,←HS.out.len];omega
 go_wp2_with fail;go_loopw [6,30] (fun v i wr=>∃m:Nat,m≤k∧i= .int .i64 m∧OwnB wr w.heap.size v (l++digs k++fl (ns.take m))∧Below w.heap.size w wr) (fun _ i _=>k -(intOf i).toNat)
 case atStart=>exact⟨0,by omega,rfl,by simpa[fl]using O2.out,B2.out⟩
 case round=>
  obtain⟨m,hm,rfl,ho,hb⟩:=hrel;clear O2 B2;have O:=zh ho;clear ho;have B:=zh hb;clear hb;by_cases hlt:m<k
  ·have hml:m<ns.length:=by rw[←HD.out.len];exact hlt
   obtain⟨x,hx,hxl⟩:=jel HA.out hml;obtain⟨b,o,rfl,_,hc⟩:=(HD.out.on B.out).rd (by omega);have hck:=hc m hml;rw[hx]at hck;have HX:=zh (jh8 hml hx);have HB:=zh hxl;have HF:=zh (jlm HA.out m (by omega));clear hc hx hxl;go_wp2_with fail;refine(jgd w.heap.size x _ _ wr O.out B.out.size (by have:=HF.out;rw[List.length_append];omega) HB.out).mono ?_;rintro e w3 ⟨v3,rfl,ho,hb⟩;have O3:=zh ho;clear ho;have B3:=zh (B.out.trans hb);clear hb;go_wp2_with fail;go_roundw
   case rel=>exact⟨m+1,by omega,by go_num,by rw[HX.out,←List.append_assoc];exact O3.out,B3.out⟩
   case measure=>simp[intOf];omega
  ·obtain rfl:m=k:=by omega
   have O4:=zh (own_all O.out HD.out.len);obtain⟨A2,c2,hv,h2⟩:=O4.out.sl;have HV:=zh hv;clear hv;have H2:=zh h2;clear h2;go_wp2_with fail;go_ret2;rw[HV.out];exact⟨A2,c2,rfl,H2.out,B.out,OwnB.far O4.out HV.out⟩
theorem jpf(n c k d:Nat)(A D:Option Addr)(l:List Nat)(ns:List Int)(w:World)(hs:Sl w A n c l)(hl:n≤1000000)(hd:SlI w D k d ns)(hk:k≤64)(ha:jb9 ns=false):
  Calls Tryz.prog 176 #[.slice A n c,.slice D k d] w (jfl l 1 w):=by
 have HS:=zh hs;clear hs;have HD:=zh hd;clear hd;have HA:=zh ha;clear ha;go_enter Tryz.func176,Tryz.ntmps176;go_wp2_with fail;refine(jln k d D ns w HD.out (by omega)).mono ?_;rintro e w1 ⟨rfl,rfl⟩;rw[HA.out];go_wp2_with fail;refine(jbi n c 0 A l w HS.out hl (by omega)).mono ?_;rintro e w1 ⟨v,rfl,ho,hb⟩;have O:=zh ho;clear ho;have B:=zh hb;clear hb;obtain⟨A2,c2,hv,h2⟩:=O.out.sl;have HV:=zh hv;clear hv;have H2:=zh h2;clear h2;go_wp2_with fail;go_ret2;rw[HV.out];exact⟨A2,c2,rfl,H2.out,B.out,OwnB.far O.out HV.out⟩
theorem jlo(n c k d:Nat)(A D:Option Addr)(l:List Nat)(w:World)(hs:Sl w A n c l)(hl:n≤1000000)(hk:64<k):
  Calls Tryz.prog 176 #[.slice A n c,.slice D k d] w (jfl l 12 w):=by
 have HS:=zh hs;clear hs;go_enter Tryz.func176,Tryz.ntmps176;go_wp2_with fail;refine(jbi n c 0 A l w HS.out hl (by omega)).mono ?_;rintro e w1 ⟨v,rfl,ho,hb⟩;have O:=zh ho;clear ho;have B:=zh hb;clear hb;obtain⟨A2,c2,hv,h2⟩:=O.out.sl;have HV:=zh hv;clear hv;have H2:=zh h2;clear h2;go_wp2_with fail;go_ret2;rw[HV.out];exact⟨A2,c2,rfl,H2.out,B.out,OwnB.far O.out HV.out⟩
def jpg(l:List Nat)(ns:List Int):List Nat:=if ns.length≤64 then(if jb9 ns then l++digs ns.length++fl ns else l)else l
def jph(ns:List Int):Int:=if ns.length≤64 then(if jb9 ns then 0 else 1)else 12
theorem jpi(n c k d:Nat)(A D:Option Addr)(l:List Nat)(ns:List Int)(w:World)(hs:Sl w A n c l)(hl:n≤1000000)(hd:SlI w D k d ns):
  Calls Tryz.prog 176 #[.slice A n c,.slice D k d] w (jfl (jpg l ns) (jph ns) w):=by
 unfold jpg jph;have hkn:=hd.len;by_cases h:k≤64
 ·have h64:ns.length≤64:=by omega
  simp only[if_pos h64];by_cases ha:jb9 ns=true
  ·simp only[if_pos ha]
   have:=jpe n c k d A D l ns w hs hl hd h ha;rw[hkn]at this⊢;exact this
  ·simp only[if_neg ha]
   exact jpf n c k d A D l ns w hs hl hd h (by simpa using ha)
 ·have h64:¬ns.length≤64:=by omega
  simp only[if_neg h64];exact jlo n c k d A D l w hs hl (by omega)
theorem jlp(s:St):(num s).l.length≤s.l.length:=by
 unfold num lost;split
 ·split
  ·simp
  ·simp
 ·omega
theorem jh9(s:St):(cnt s).l.length≤s.l.length:=by
 unfold cnt lost;split
 ·exact jlp s
 ·simp
theorem jge(s:St)(k:Nat):(numsAt s k).l.length≤s.l.length:=by
 induction k with
 |zero=>exact Nat.le_refl _
 |succ k ih=>exact Nat.le_trans (jlp _) ih
def nI(l:List Nat):List Int:=l.map fun x=>((x:Nat):Int)
theorem jbu(l:List Nat):(nI l).length=l.length:=by simp[nI]
theorem jlq(l:List Nat)(x:Nat):nI (l++[x])=nI l++[(x:Int)]:=by simp[nI]
theorem jjc{n:Nat}(h:n≤64)(r:List Nat):cnt ⟨digs n++r,0⟩=⟨r,0⟩∧cntV ⟨digs n++r,0⟩=n:=by
 have h1:=num_digs (n:=n) (by omega) r;unfold cnt cntV;rw[h1.2,if_pos h,if_pos h,h1.1];exact⟨rfl,rfl⟩
theorem jlr(s:ByteArray)(h:s.size≤64)(r:List Nat):text ⟨digs s.size++(sb s++r),0⟩=⟨r,0⟩∧textV ⟨digs s.size++(sb s++r),0⟩=sb s:=by
 have h1:=jjc h (sb s++r);have hl:s.size≤(sb s++r).length:=by rw[List.length_append,jbh];omega
 unfold text textV;rw[h1.1,h1.2];unfold tk tkV;simp only[if_pos,if_pos hl];have e:=jbh s;rw[←e];exact⟨by rw[List.drop_left],List.take_left⟩
theorem jls(ns:List Int):fl ns=(ns.map Int.toNat).flatMap digs:=by
 unfold fl;rw[List.flatMap_map]
theorem nI_nat{ns:List Int}(h:jb9 ns=true):nI (ns.map Int.toNat)=ns:=by
 unfold nI;rw[List.map_map]
 conv=>rhs;rw[←List.map_id ns]
 apply List.map_congr_left;intro x hx;obtain⟨j,hj,rfl⟩:=List.mem_iff_getElem.1 hx;obtain⟨m,hm,_⟩:=jel h hj;rw[jak hj]at hm;simp[hm]
theorem nat_lt{ns:List Int}(h:jb9 ns=true):∀n∈ns.map Int.toNat,n<4611686018427387904:=by
 intro n hn;obtain⟨x,hx,rfl⟩:=List.mem_map.1 hn;obtain⟨j,hj,rfl⟩:=List.mem_iff_getElem.1 hx;obtain⟨m,hm,hlt⟩:=jel h hj;rw[jak hj]at hm;rw[hm];simpa using hlt
theorem jlt{ns:List Int}(h:jb9 ns=true)(r:List Nat)(k:Nat)(hk:k≤ns.length):numsAt ⟨fl ns++r,0⟩ k=⟨fl (ns.drop k)++r,0⟩∧numsV ⟨fl ns++r,0⟩ k=(ns.take k).map Int.toNat:=by
 have:=numsAt_all (ns.map Int.toNat) (nat_lt h) r k (by simpa using hk);rw[jls,jls,List.map_drop,List.map_take];exact this
theorem jlu{ns:List Int}(h:jb9 ns=true)(hk:ns.length≤64)(r:List Nat):list ⟨digs ns.length++(fl ns++r),0⟩=⟨r,0⟩∧nI (listV ⟨digs ns.length++(fl ns++r),0⟩)=ns:=by
 have h1:=jjc hk (fl ns++r);have h2:=jlt h r ns.length (Nat.le_refl _);have h3:list ⟨digs ns.length++(fl ns++r),0⟩=⟨r,0⟩:=by
  unfold list;rw[h1.1,h1.2,h2.1,List.drop_length];simp[fl]
 refine⟨h3,?_⟩;unfold listV;rw[h3,if_pos rfl,h1.1,h1.2,h2.2,List.take_length,nI_nat h]
end Go.Proofs.YtabandbigckfkaaGreatDoor
namespace Go.Proofs.YtabandbigckfkaaGreatDoor
open Cdc
namespace Rc
theorem sz_small{n:Int}(h0:0≤n)(h1:n≤1099511627776):sz n≠0:=by
 obtain⟨m,rfl⟩:=Int.eq_ofNat_of_zero_le h0;rw[sz_yes (by omega)];have:=digs_pos m;omega
theorem all_small{l:List Int}(h:∀n∈l,0≤n∧n≤1099511627776):jb9 l=true:=by
 unfold jb9;rw[List.all_eq_true];intro n hn;rw[decide_eq_true_eq];exact sz_small (h n hn).1 (h n hn).2
def bytes(r:R):List Nat:=fl (nums r)++((digs r.text.size++sb r.text)++(if r.kind=3 then digs 12++fl (Spc.flds r.sp)else[]))
def k1(l:List Nat):St:=numsAt ⟨l,0⟩ 5
def v1(l:List Nat):List Int:=nI (numsV ⟨l,0⟩ 5)
def k2(l:List Nat):St:=text (k1 l)
def t2(l:List Nat):ByteArray:=txt (textV (k1 l))
def k3(l:List Nat):St:=if(v1 l).getD 0 0=3 then list (k2 l)else k2 l
def s3(l:List Nat):Spc.Sp:=if(v1 l).getD 0 0=3 then(if(listV (k2 l)).length=12 then Spc.of (nI (listV (k2 l)))else Spc.zero)else Spc.zero
def dec(l:List Nat):R:=⟨(v1 l).getD 0 0,(v1 l).getD 1 0,(v1 l).getD 2 0,(v1 l).getD 3 0,(v1 l).getD 4 0,t2 l,s3 l⟩
theorem dec_app{r:R}(h:right r=true)(x:List Nat):dec (bytes r++x)=r∧k3 (bytes r++x)=⟨x,0⟩:=by
 have ho:=ok_of h;have ha:=all_small ho.nums;have hf:=all_small ho.flds;obtain⟨y,hy⟩:∃y,y=(if r.kind=3 then digs 12++fl (Spc.flds r.sp)else[]):=⟨_,rfl⟩;have eb:bytes r++x=fl (nums r)++((digs r.text.size++sb r.text)++(y++x)):=by
  unfold bytes;rw[←hy];simp only[List.append_assoc]
 rw[eb];have h1:=jlt ha ((digs r.text.size++sb r.text)++(y++x)) 5 (Nat.le_refl _);have e1:k1 (fl (nums r)++((digs r.text.size++sb r.text)++(y++x)))=⟨(digs r.text.size++sb r.text)++(y++x),0⟩:=by
  unfold k1;rw[h1.1];simp[nums,fl]
 have e2:v1 (fl (nums r)++((digs r.text.size++sb r.text)++(y++x)))=nums r:=by
  unfold v1;rw[h1.2,show(nums r).take 5=nums r from rfl,nI_nat ha]
 generalize fl (nums r)++((digs r.text.size++sb r.text)++(y++x))=z at*;have h2:=jlr r.text ho.text (y++x);rw[←List.append_assoc]at h2;have e3:k2 z=⟨y++x,0⟩:=by unfold k2;rw[e1];exact h2.1
 have e4:t2 z=r.text:=by unfold t2;rw[e1,h2.2,jlh]
 have e5:(v1 z).getD 0 0=r.kind:=by rw[e2];rfl
 have key:s3 z=r.sp∧k3 z=⟨x,0⟩:=by
  unfold s3 k3;rw[e5,e3];by_cases hk:r.kind=3
  ·rw[if_pos hk]at hy
   rw[if_pos hk,if_pos hk,hy];have h3:=jlu hf (by rw[Spc.flds_length];omega) x;rw[Spc.flds_length,←List.append_assoc]at h3;rw[h3.1,h3.2];have hl:(listV ⟨digs 12++fl (Spc.flds r.sp)++x,0⟩).length=12:=by rw[←jbu,h3.2,Spc.flds_length]
   rw[if_pos hl,Spc.of_flds];exact⟨rfl,rfl⟩
  ·rw[if_neg hk]at hy
   rw[if_neg hk,if_neg hk,hy];exact⟨(ho.other hk).symm,rfl⟩
 refine⟨ext ?_ e4 key.1,key.2⟩;show[(v1 z).getD 0 0,(v1 z).getD 1 0,(v1 z).getD 2 0,(v1 z).getD 3 0,(v1 z).getD 4 0]=nums r;rw[e2];rfl
theorem dec_bytes{r:R}(h:right r=true):dec (bytes r)=r∧k3 (bytes r)=⟨[],0⟩:=by
 have:=dec_app h []
 rwa [List.append_nil]at this
theorem bytes_cut{r s:R}(hr:right r=true)(hs:right s=true){x:List Nat}(h:bytes r=bytes s++x):x=[]:=by
 have h1:=(dec_bytes hr).2;rw[h,(dec_app hs x).2]at h1;injection h1
def whole(l:List Nat):Prop:=right (dec l)=true∧bytes (dec l)=l
theorem whole_bytes{r:R}(h:right r=true):whole (bytes r):=by
 unfold whole;rw[(dec_bytes h).1];exact⟨h,rfl⟩
theorem whole_iff{l:List Nat}:whole l↔∃r,right r=true∧bytes r=l:=⟨fun h=>⟨_,h.1,h.2⟩,fun⟨_,h1,h2⟩=>h2▸whole_bytes h1⟩
noncomputable def rdV(l:List Nat):R:=by classical exact if whole l then dec l else none_
noncomputable def rdE(l:List Nat):Int:=by classical exact if whole l then 0 else 2
theorem rd_yes{l:List Nat}(h:whole l):rdV l=dec l∧rdE l=0:=by unfold rdV rdE;rw[if_pos h,if_pos h];exact⟨rfl,rfl⟩
theorem rd_no{l:List Nat}(h:¬whole l):rdV l=none_∧rdE l=2:=by unfold rdV rdE;rw[if_neg h,if_neg h];exact⟨rfl,rfl⟩
theorem rd_back{r:R}(h:right r=true):rdV (bytes r)=r∧rdE (bytes r)=0:=by
 have:=rd_yes (whole_bytes h);rw[(dec_bytes h).1]at this;exact this
theorem none_wrong:right none_=false:=by decide
theorem rd_only{l:List Nat}(h:rdE l=0):right (rdV l)=true∧bytes (rdV l)=l:=by
 by_cases hw:whole l
 ·rw[(rd_yes hw).1];exact hw
 ·rw[(rd_no hw).2]at h;omega
theorem rd_cut{r:R}(h:right r=true):rdE ((bytes r).take ((bytes r).length -1))=2:=by
 refine(rd_no fun hw=> ?_).2;obtain⟨s,hs,hb⟩:=whole_iff.1 hw;have e:bytes r=bytes s++(bytes r).drop ((bytes r).length -1):=by rw[hb,List.take_append_drop]
 have:=congrArg List.length (bytes_cut h hs e);rw[List.length_drop,List.length_nil]at this;have hp:0<(bytes r).length:=by
  unfold bytes;have:=digs_pos r.text.size;rw[List.length_append,List.length_append,List.length_append];omega
 omega
theorem fl_le{l:List Int}(h:∀n∈l,0≤n∧n≤1099511627776):(fl l).length≤9*l.length:=by
 have:=jlm (all_small h) l.length (Nat.le_refl _)
 rwa [List.take_length]at this
theorem bytes_len{r:R}(h:right r=true):(bytes r).length≤300:=by
 have ho:=ok_of h;have h1:=fl_le ho.nums;have h2:=fl_le ho.flds;have h3:(digs r.text.size).length≤9:=digs_nine (by have:=ho.text;omega);have h4:=jbh r.text;have h5:=ho.text;rw[show(nums r).length=5 from rfl]at h1;rw[Spc.flds_length]at h2;unfold bytes;rw[List.length_append,List.length_append,List.length_append];split
 ·rw[List.length_append,show(digs 12).length=1 from by rw[digs_lt (by omega)];rfl]
  omega
 ·simp;omega
theorem bytes_pos(r:R):0<(bytes r).length:=by
 unfold bytes;have:=digs_pos r.text.size;rw[List.length_append,List.length_append,List.length_append];omega
theorem fl_byte{l:List Int}:∀x∈fl l,x<256:=by
 intro x hx;unfold fl at hx;obtain⟨n,_,hn⟩:=List.mem_flatMap.1 hx;exact digs_byte _ x hn
theorem bytes_byte(r:R):∀x∈bytes r,x<256:=by
 intro x hx;unfold bytes at hx;rcases List.mem_append.1 hx with hx|hx
 ·exact fl_byte x hx
 rcases List.mem_append.1 hx with hx|hx
 ·rcases List.mem_append.1 hx with hx|hx
  ·exact digs_byte _ x hx
  ·exact jh6 _ x hx
 ·split at hx
  ·rcases List.mem_append.1 hx with hx|hx
   ·exact digs_byte _ x hx
   ·exact fl_byte x hx
  ·cases hx
end Rc
theorem Rc.rd_in(l:List Nat):Rc.In (Rc.rdV l):=by
 by_cases h:Rc.whole l
 ·have h2:Rc.right (Rc.rdV l)=true:=by rw[(Rc.rd_yes h).1];exact h.1
  exact Rc.ok_in (Rc.ok_of h2)
 ·rw[(Rc.rd_no h).1];exact Rc.none_in
end Go.Proofs.YtabandbigckfkaaGreatDoor
