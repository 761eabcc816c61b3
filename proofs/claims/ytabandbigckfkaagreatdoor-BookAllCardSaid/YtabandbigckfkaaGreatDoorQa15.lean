import Derived.Test.YtabandbigckfkaaGreatDoorQa09
import Derived.Test.YtabandbigckfkaaGreatDoorQa14
import Derived.Lib.Atoi
import Derived.Lib.ItoaNum
import Derived.Lib.Split
import Derived.Lib.Join
import Derived.Lib.Strings
import Derived.Deep.RegionWith
import Derived.Laws.Tables
import Derived.Laws.Cover3
import Derived.Sort.OwnSorted
import Derived.Sort.KeysCollected
set_option maxHeartbeats 6400000
set_option maxRecDepth 100000
set_option linter.unusedSimpArgs false
set_option linter.unusedVariables false
namespace Go.Proofs.YtabandbigckfkaaGreatDoor.Bk
open Rc (R right)
section
variable{s:St}{r:R}
theorem kinds(h:chk s r=0):r.kind=1∨r.kind=2∨r.kind=3∨r.kind=4∨r.kind=5∨r.kind=6∨r.kind=7:=by
 have:=(Rc.ok_of (chk_right h)).kind;omega
theorem versions:((app s r).vs.length=s.vs.length∨(app s r).vs.length=s.vs.length+1)∧∀n t,dig s.vs n=some t→dig (app s r).vs n=some t:=by
 by_cases hc:chk s r=0
 ·rw[app_ok hc]
  have hr:=chk_right hc;rcases kinds hc with hk|hk|hk|hk|hk|hk|hk
  ·rw[act1 hk];exact⟨.inl rfl,fun _ _ h=>h⟩
  ·rw[act2 hk]
   have h1:=two_ok (by rw[←chk_two hr hk (chk_epoch hc (by omega))];exact hc);refine⟨.inr (pub_length _ _),fun n t h=> ?_⟩;have h5:dig s.vs r.n=none:=by
    have:=h1.1;unfold has at this
    cases e:dig s.vs r.n with
    |none=>rfl
    |some t=>rw[e]at this;cases this
   show dig (pub s.vs ⟨r.n,r.text⟩) n=some t;rw[dig_pub _ _ _ h5];by_cases he:r.n=n
   ·rw[←he,h5]at h;cases h
   ·rw[if_neg he];exact h
  ·rw[act3 hk];exact⟨.inl rfl,fun _ _ h=>h⟩
  ·rw[act4 hk];exact⟨.inl rfl,fun _ _ h=>h⟩
  ·rw[act5 hk];exact⟨.inl rfl,fun _ _ h=>h⟩
  ·rw[act6 hk];exact⟨.inl rfl,fun _ _ h=>h⟩
  ·rw[act7 hk];exact⟨.inl rfl,fun _ _ h=>h⟩
 ·rw[app_no hc];exact⟨.inl rfl,fun _ _ h=>h⟩
theorem history:(app s r).h=if chk s r=0∧(r.kind=3∨r.kind=4∨r.kind=7)then last24 (s.h++[r])else s.h:=by
 by_cases hc:chk s r=0
 ·rw[app_ok hc]
  rcases kinds hc with hk|hk|hk|hk|hk|hk|hk
  ·rw[if_neg (by omega),act1 hk]
  ·rw[if_neg (by omega),act2 hk]
  ·rw[if_pos ⟨hc,.inl hk⟩,act3 hk]
  ·rw[if_pos ⟨hc,.inr (.inl hk)⟩,act4 hk]
  ·rw[if_neg (by omega),act5 hk]
  ·rw[if_neg (by omega),act6 hk]
  ·rw[if_pos ⟨hc,.inr (.inr hk)⟩,act7 hk]
 ·rw[app_no hc,if_neg (fun h=>hc h.1)]
end
theorem Like.refl(a:St):Like a a:=⟨rfl,rfl,rfl,rfl,rfl,rfl,rfl,rfl,rfl,rfl,rfl,fun _ _=>rfl,rfl,rfl⟩
theorem Like.symm{a b:St}(h:Like a b):Like b a:=⟨h.ep.symm,h.who.symm,h.till.symm,h.stable.symm,h.from_.symm,h.ph.symm,h.step.symm,h.since.symm,h.begun.symm,h.seq.symm,h.sp.symm,fun i hi=>(h.us i hi).symm,h.vs.symm,h.h.symm⟩
theorem cgo_keeps{m:Int}{want:St}{odd:Int}:∀(f i:Nat) (l:List R),Like (all m l) want→(l.length:Int) -(allN m l:Nat)=odd→
  Like (all m (cgo m want odd f i l)) want∧((cgo m want odd f i l).length:Int) -(allN m (cgo m want odd f i l):Nat)=odd∧(cgo m want odd f i l).length≤l.length:=by
 intro f
 induction f with
 |zero=>intro i l h1 h2;exact⟨h1,h2,Nat.le_refl _⟩
 |succ f ih=>
  intro i l h1 h2;unfold cgo;split
  ·rename_i h
   obtain⟨⟨r,hr,_⟩,h3,h4⟩:=h;have:=but_length (List.getElem?_eq_some_iff.1 hr).1;obtain⟨g1,g2,g3⟩:=ih i (but l i) h3 h4;exact⟨g1,g2,by omega⟩
  ·exact ih (i+1) l h1 h2
theorem compact_keeps(m:Int)(l:List R):Like (all m (compact m l)) (all m l)∧((compact m l).length:Int) -(allN m (compact m l):Nat)=(l.length:Int) -(allN m l:Nat)∧(compact m l).length≤l.length:=
 cgo_keeps _ _ _ (Like.refl _) rfl
def taken(s:St):List R→List R
 |[]=>[]
 |r::l=>if chk s r=0 then r::taken (app s r) l else taken (app s r) l
def told(s:St):List R→List R
 |[]=>[]
 |r::l=>if chk s r=0∧(r.kind=3∨r.kind=4∨r.kind=7)then r::told (app s r) l else told (app s r) l
end Go.Proofs.YtabandbigckfkaaGreatDoor.Bk
namespace Go.Proofs.YtabandbigckfkaaGreatDoor.Bk
open Rc (R right)
theorem Like.trans{a b c:St}(h:Like a b)(g:Like b c):Like a c:=⟨h.ep.trans g.ep,h.who.trans g.who,h.till.trans g.till,h.stable.trans g.stable,h.from_.trans g.from_,h.ph.trans g.ph,h.step.trans g.step,h.since.trans g.since,h.begun.trans g.begun,h.seq.trans g.seq,h.sp.trans g.sp,fun i hi=>(h.us i hi).trans (g.us i hi),h.vs.trans g.vs,h.h.trans g.h⟩
section
variable{a b:St}{r:R}
theorem Like.chk(h:Like a b)(hm:a.m=b.m)(r:R):chk a r=chk b r:=by
 have hl:leadE a r=leadE b r:=by unfold leadE leadOk;rw[h.ep,h.who,h.till,hm]
 have h2:chk2 a r=chk2 b r:=by unfold chk2;rw[h.vs]
 have h3:chk3 a r=chk3 b r:=by unfold chk3;rw[h.vs,h.ph,h.stable]
 have h4:chk4 a r=chk4 b r:=by unfold chk4;rw[h.ph]
 have h5:chk5 a r=chk5 b r:=by unfold chk5;rw[h.ph,h.seq,h.sp,h.from_]
 have h7:chk7 a r=chk7 b r:=by unfold chk7;rw[h.ph,h.step,h.sp]
 unfold Bk.chk;rw[hl,h2,h3,h4,h5,h7,h.ep];by_cases hr:right r=false
 ·rw[if_pos hr,if_pos hr]
 ·have hr:right r=true:=by cases e:right r<;>simp_all
  by_cases hk:r.kind=6
  ·have h6:chk6 a r=chk6 b r:=by
    have:=Rc.right6 hk hr;unfold chk6;rw[h.us r.who.toNat (by omega)]
   rw[h6]
  ·simp only[if_neg hk]
theorem Like.app(h:Like a b)(hm:a.m=b.m)(r:R):Like (app a r) (app b r):=by
 unfold Bk.app;rw[h.chk hm r];by_cases hc:Bk.chk b r=0
 case neg=>rw[if_neg hc,if_neg hc];exact h
 rw[if_pos hc,if_pos hc];rcases kinds hc with hk|hk|hk|hk|hk|hk|hk
 ·rw[act1 hk,act1 hk]
  have ht:leadT a r=leadT b r:=by unfold leadT;rw[h.ep,h.till]
  exact{h with ep:=rfl,who:=rfl,till:=ht}
 ·rw[act2 hk,act2 hk]
  exact{h with vs:=by show pub a.vs _=pub b.vs _;rw[h.vs]}
 ·rw[act3 hk,act3 hk]
  exact{h with sp:=rfl,ph:=rfl,step:=rfl,since:=rfl,begun:=rfl,from_:=h.stable,h:=by show last24 (a.h++[r])=last24 (b.h++[r]);rw[h.h]}
 ·rw[act4 hk,act4 hk]
  exact{h with ph:=rfl,stable:=(by show(if r.n=3 then a.sp.v else a.stable)=(if r.n=3 then b.sp.v else b.stable);rw[h.sp,h.stable]),h:=by show last24 (a.h++[r])=last24 (b.h++[r]);rw[h.h]}
 ·rw[act5 hk,act5 hk]
  refine{h with us:=fun i hi=> ?_,seq:=rfl}
  show setU a.us _ _ i=setU b.us _ _ i;unfold setU;rw[h.us i hi]
 ·rw[act6 hk,act6 hk]
  have:=Rc.right6 hk (chk_right hc);refine{h with us:=fun i hi=> ?_}
  show setU a.us _ _ i=setU b.us _ _ i;unfold setU;rw[h.us i hi,h.us r.who.toNat (by omega)]
 ·rw[act7 hk,act7 hk]
  exact{h with step:=rfl,since:=rfl,h:=by show last24 (a.h++[r])=last24 (b.h++[r]);rw[h.h]}
end
def refs(s:St)(l:List R):Int:=(l.length:Int) -(cnt s l:Nat)
theorem refs_nil(s:St):refs s []=0:=rfl
theorem refs_cons(s:St)(r:R)(l:List R):refs s (r::l)=(if chk s r=0 then 0 else 1)+refs (app s r) l:=by
 unfold refs;rw[List.length_cons,cnt];split<;>omega
theorem refs_append(s:St)(a b:List R):refs s (a++b)=refs s a+refs (run s a) b:=by
 unfold refs;rw[List.length_append,cnt_append];omega
theorem refs_nonneg(s:St)(l:List R):0≤refs s l:=by have:=cnt_le s l;unfold refs;omega
theorem refs_take(s:St)(l:List R){j:Nat}(h:j<l.length):refs s (l.take (j+1))=refs s (l.take j)+if chk (run s (l.take j)) l[j]=0 then 0 else 1:=by
 rw[List.take_succ_eq_append_getElem h,refs_append,refs_cons,refs_nil];omega
theorem refs_split(s:St)(l:List R)(j:Nat):refs s l=refs s (l.take j)+refs (run s (l.take j)) (l.drop j):=by
 rw[←refs_append,List.take_append_drop]
theorem run_split(s:St)(l:List R)(j:Nat):run s l=run (run s (l.take j)) (l.drop j):=by
 rw[←run_append,List.take_append_drop]
theorem like_run(l:List R):∀{a b:St},Like a b→a.m=b.m→Like (run a l) (run b l)∧refs a l=refs b l:=by
 induction l with
 |nil=>exact fun h _=>⟨h,rfl⟩
 |cons r l ih=>
  intro a b h hm;obtain⟨h1,h2⟩:=ih (h.app hm r) (by rw[app_m,app_m,hm]);refine⟨h1,?_⟩;rw[refs_cons,refs_cons,h2,h.chk hm r]
def Lack(b:St)(r:R)(l:List R):Prop:=chk b r=0∧Like (run (app b r) l) (run b l)∧refs b l=refs (app b r) l
theorem lack_end{b:St}{r:R}{l:List R}(hc:chk b r=0):Lack b r l↔(refs b (l.take l.length) -refs (app b r) (l.take l.length)=0∧Like (run (app b r) (l.take l.length)) (run b (l.take l.length))):=by
 rw[List.take_length];unfold Lack;constructor
 ·rintro⟨_,h1,h2⟩;exact⟨by omega,h1⟩
 ·rintro⟨h1,h2⟩;exact⟨hc,h2,by omega⟩
theorem lack_more{b:St}{r:R}{l:List R}(j:Nat)(h:refs (app b r) l -refs (app b r) (l.take j)<refs b (l.take j) -refs (app b r) (l.take j)):¬Lack b r l∧refs b (l.take j) -refs (app b r) (l.take j)≠0:=by
 have h1:=refs_split b l j;have h2:=refs_split (app b r) l j;have h3:=refs_nonneg (run b (l.take j)) (l.drop j);have h4:=refs_nonneg (run (app b r) (l.take j)) (l.drop j);refine⟨fun hl=> ?_,by omega⟩;have:=hl.2.2;omega
theorem lack_like{b:St}{r:R}{l:List R}(hc:chk b r=0)(j:Nat)(h:Like (run (app b r) (l.take j)) (run b (l.take j))):Lack b r l↔refs b (l.take j) -refs (app b r) (l.take j)=0:=by
 have h1:=refs_split b l j;have h2:=refs_split (app b r) l j;obtain⟨h3,h4⟩:=like_run (l.drop j) h (by rw[run_m,run_m,app_m]);rw[←run_split,←run_split]at h3;unfold Lack;constructor
 ·rintro⟨_,_,h5⟩;omega
 ·intro h5;exact⟨hc,h3,by omega⟩
open Classical in
noncomputable def dgo(b:St):List R→List R
 |[]=>[]
 |r::l=>if r.kind=1∧Lack b r l then dgo b l else r::dgo (app b r) l
theorem cgo_dgo{m:Int}{want:St}{odd:Int}:∀(rest kept:List R),Like (all m (kept++rest)) want→refs (new m) (kept++rest)=odd→cgo m want odd rest.length kept.length (kept++rest)=kept++dgo (run (new m) kept) rest:=by
 intro rest
 induction rest with
 |nil=>intro kept _ _;rfl
 |cons r rest ih=>
  intro kept h1 h2;have hb:but (kept++r::rest) kept.length=kept++rest:=by
   unfold but;rw[List.take_left,List.drop_append,List.drop_of_length_le (by omega),show kept.length+1 -kept.length=1 by omega];rfl
  have hg:(kept++r::rest)[kept.length]? =some r:=by rw[List.getElem?_append_right (Nat.le_refl _),Nat.sub_self];rfl
  have e1:all m (kept++r::rest)=run (app (run (new m) kept) r) rest:=by unfold all;rw[run_append];rfl
  have e2:all m (kept++rest)=run (run (new m) kept) rest:=by unfold all;rw[run_append]
  have e3:((kept++rest).length:Int) -(allN m (kept++rest):Nat)=refs (new m) kept+refs (run (new m) kept) rest:=by rw[←refs_append];rfl
  have e4:=h2;rw[refs_append,refs_cons]at e4;have hi:Idle m want odd (kept++r::rest) kept.length↔r.kind=1∧Lack (run (new m) kept) r rest:=by
   unfold Idle Lack;rw[hb,hg,e2,e3];rw[e1]at h1;generalize run (new m) kept=b at*;constructor
   ·rintro⟨⟨r',hr',hk⟩,h3,h4⟩
    obtain rfl:=Option.some.inj hr';by_cases hc:chk b r=0
    ·rw[if_pos hc]at e4
     exact⟨hk,hc,h1.trans h3.symm,by omega⟩
    ·rw[if_neg hc,app_no hc]at e4
     omega
   ·rintro⟨hk,hc,h3,h4⟩
    rw[if_pos hc]at e4;exact⟨⟨r,rfl,hk⟩,h3.symm.trans h1,by omega⟩
  rw[List.length_cons,cgo,dgo];by_cases hd:r.kind=1∧Lack (run (new m) kept) r rest
  ·rw[if_pos (hi.2 hd),if_pos hd,hb]
   have h3:=hi.2 hd;refine ih kept ?_ ?_
   ·rw[←hb];exact h3.2.1
   ·have:=h3.2.2
    rw[hb]at this;exact this
  ·rw[if_neg (fun h=>hd (hi.1 h)),if_neg hd]
   have:=ih (kept++[r]) (by rw[List.append_assoc];exact h1) (by rw[List.append_assoc];exact h2);rw[List.append_assoc,List.length_append,List.length_singleton,run_snoc]at this;rw[show kept++r::rest=kept++([r]++rest)from rfl,this,List.append_assoc];rfl
theorem compact_dgo(m:Int)(l:List R):compact m l=dgo (new m) l:=cgo_dgo l [] (Like.refl _) rfl
end Go.Proofs.YtabandbigckfkaaGreatDoor.Bk
namespace Go.Proofs.YtabandbigckfkaaGreatDoor
namespace Spc
def bts(l:List Nat):List UInt8:=l.map fun x=>UInt8.ofNat x
theorem txt_bts(l:List Nat):(txt l).data.toList=bts l:=jcd l
theorem bts_append(a b:List Nat):bts (a++b)=bts a++bts b:=by unfold bts;simp
theorem of_bts(l:List Nat):(⟨(bts l).toArray⟩:ByteArray)=txt l:=jhg (by rw[txt_bts])
theorem decDigits_is(u:Nat):Lib.decDigits u=bts (dg u):=by
 induction u using Nat.strongRecOn with
 |ind u ih=>
  by_cases h:u<10
  ·rw[Lib.decDigits,dif_pos h,dg_one h];rfl
  ·rw[Lib.decDigits,dif_neg h,ih _ (by omega),dg_more h,bts_append];rfl
theorem itoa_is(n:Int):Lib.itoa n=bts (digs n):=by
 unfold Lib.itoa digs;by_cases h:n<0
 ·rw[if_pos h,if_pos h,decDigits_is];rfl
 ·rw[if_neg h,if_neg h,decDigits_is,show n.toNat=n.natAbs by omega]
theorem itoa_txt(n:Int):(⟨(Lib.itoa n).toArray⟩:ByteArray)=txt (digs n):=by rw[itoa_is,of_bts]
theorem decFrom_cons(x:UInt8)(r:List UInt8)(acc:Nat):Lib.decFrom acc (x::r)=match Lib.digitVal x with
 |some d=>Lib.decFrom (acc*10+d) r
 |none=>none:=by rw[Lib.decFrom];cases Lib.digitVal x<;>rfl
theorem decFrom_append(a b:List UInt8)(acc:Nat):Lib.decFrom acc (a++b)=(Lib.decFrom acc a).bind fun m=>Lib.decFrom m b:=by
 induction a generalizing acc with
 |nil=>rfl
 |cons x a ih=>
  rw[List.cons_append,decFrom_cons,decFrom_cons]
  cases Lib.digitVal x with
  |none=>rfl
  |some d=>exact ih _
theorem digit_is{k:Nat}(h:k<10):Lib.digitVal (UInt8.ofNat (48+k))=some k:=by
 unfold Lib.digitVal;have:(UInt8.ofNat (48+k)).toNat=48+k:=by simp;omega
 rw[this,if_pos (by omega)]
 congr 1;omega
theorem decFrom_digits(u:Nat):Lib.decFrom 0 (Lib.decDigits u)=some u:=by
 induction u using Nat.strongRecOn with
 |ind u ih=>
  by_cases h:u<10
  ·rw[Lib.decDigits,dif_pos h]
   unfold Lib.decFrom;rw[digit_is h];show Lib.decFrom (0*10+u) []=_;unfold Lib.decFrom
   congr 1;omega
  ·rw[Lib.decDigits,dif_neg h,decFrom_append,ih _ (by omega)]
   show Lib.decFrom (u/10) [UInt8.ofNat (48+u%10)]=_;unfold Lib.decFrom;rw[digit_is (by omega)];show Lib.decFrom (u/10*10+u%10) []=_;unfold Lib.decFrom
   congr 1;omega
theorem decDigits_ne(u:Nat):Lib.decDigits u≠[]:=by
 unfold Lib.decDigits;split<;>simp
theorem decNat_digits(u:Nat):Lib.decNat (Lib.decDigits u)=some u:=by
 unfold Lib.decNat;rw[if_neg (by simpa using decDigits_ne u),decFrom_digits]
theorem atoi_itoa(n:Int):Lib.atoi (Lib.itoa n)=some n:=by
 unfold Lib.itoa;by_cases h:n<0
 ·rw[if_pos h]
  unfold Lib.atoi;simp only[beq_self_eq_true,if_true,decNat_digits,Option.map_some]
  congr 1;omega
 ·rw[if_neg h]
  have hd:=decFrom_digits n.toNat;have hn:=decNat_digits n.toNat;generalize Lib.decDigits n.toNat=q at hd hn;rcases q with _|⟨b,r⟩
  ·simp[Lib.decNat]at hn
  ·have hb:48≤b.toNat:=by
    unfold Lib.decFrom at hd;unfold Lib.digitVal at hd;by_cases hc:48≤b.toNat∧b.toNat≤57
    ·exact hc.1
    ·rw[if_neg hc]at hd;cases hd
   have h1:(b==45)=false:=by rw[beq_eq_false_iff_ne];intro e;rw[e]at hb;simp at hb
   have h2:(b==43)=false:=by rw[beq_eq_false_iff_ne];intro e;rw[e]at hb;simp at hb
   unfold Lib.atoi;simp only[h1,h2,hn];simp;omega
theorem from_digs(n:Int):from_ (digs n)=if n<0 then 1 else 0:=by
 unfold from_ digs;by_cases h:n<0
 ·rw[if_pos h,if_pos h,if_pos (by simp)]
 ·rw[if_neg h,if_neg h,if_neg]
  rintro⟨h1,h2⟩;have:=dg_byte n.natAbs ((dg n.natAbs).getD 0 0) (by rw[jhe h2];exact List.getElem_mem h2);omega
end Spc
namespace Bd
open Bk (St Un Vn)
def leader:ByteArray:=⟨#[108,101,97,100,101,114]⟩
def tab(s:St):Ls.St:=⟨s.m,if s.ep=0 then[]else[⟨leader,s.who,s.ep,s.till,false⟩]⟩
theorem tab_some{s:St}(he:s.ep≠0):tab s=⟨s.m,[⟨leader,s.who,s.ep,s.till,false⟩]⟩:=by unfold tab;rw[if_neg he]
theorem find_tab(s:St):Ls.find (tab s).l leader=if s.ep=0 then none else some ⟨leader,s.who,s.ep,s.till,false⟩:=by
 unfold tab;split
 ·rfl
 ·show Ls.find [_] leader=_
  rw[Ls.find_cons,if_pos rfl]
theorem tab_free(s:St)(now:Int):Bk.free s now=true↔Ls.Free (tab s) leader now:=by
 unfold Bk.free Ls.Free;rw[find_tab];by_cases h:s.ep=0
 ·rw[if_pos h];simp[h]
 ·rw[if_neg h]
  simp[h];rfl
theorem tab_holds(s:St)(who ep now:Int)(he:s.ep≠0):Ls.Holds (tab s) leader who ep now↔s.who=who∧s.ep=ep∧now<s.till:=by
 unfold Ls.Holds;rw[find_tab,if_neg he];constructor
 ·rintro⟨e,he,_,h2⟩
  obtain rfl:=Option.some.inj he;exact h2
 ·rintro⟨rfl,rfl,h⟩
  exact⟨_,rfl,rfl,rfl,rfl,h⟩
structure Lok(s:St):Prop where
 ok:Bk.Ok s
 t1:s.ep≠0→1≤s.till
theorem tab_good{s:St}(h:Lok s):Ls.Good (tab s):=by
 refine⟨?_,h.ok.m.1,h.ok.m.2,?_⟩
 ·unfold tab Ls.Rise
  split
  ·exact List.Pairwise.nil
  ·exact List.pairwise_singleton _ _
 ·intro e he
  unfold tab at he;by_cases h0:s.ep=0
  ·simp[h0]at he
  ·simp only[if_neg h0,List.mem_singleton]at he
   subst he;have h1:=h.ok.ep;have h2:=h.ok.who;have h3:=h.ok.till;have h4:=h.t1 h0;refine⟨(by show 1≤leader.size;decide),(by show leader.size≤16;decide),h2.1,h2.2,?_,h3,fun h=>(by cases h),fun _=>h4⟩;show 1≤s.ep;omega
theorem epoch_tab(s:St):Ls.epochOf (tab s).l leader=s.ep:=by
 unfold Ls.epochOf;rw[find_tab];by_cases h:s.ep=0
 ·rw[if_pos h];exact h.symm
 ·rw[if_neg h]
theorem put_tab(s:St)(who ep till:Int)(d:Bool):Ls.put (tab s).l ⟨leader,who,ep,till,d⟩=[⟨leader,who,ep,till,d⟩]:=by
 unfold Ls.put tab;split
 ·rfl
 ·show Ls.putK (Ls.dropK [_] leader) _=_
  rw[Ls.dropK_cons,if_pos rfl];rfl
theorem tab_take{s:St}{who now ttl:Int}(hr:Ls.Right leader who now ttl)(hf:Bk.free s now=true)(he:s.ep+1≠0):
  Ls.takeS (tab s) leader who now ttl=tab {s with ep:=s.ep+1,who:=who,till:=Bk.late now ttl}∧Ls.takeE (tab s) leader who now ttl=0:=by
 have e:Ls.takeE (tab s) leader who now ttl=0:=by
  unfold Ls.takeE;rw[if_neg (fun h=>h hr),if_neg (fun h=>h ((tab_free s now).1 hf))]
 refine⟨?_,e⟩;unfold Ls.takeS Ls.taken;rw[if_pos e,put_tab,epoch_tab];unfold tab;rw[if_neg he];rfl
open Classical in
theorem tab_renew{s:St}{who ep now ttl:Int}(hr:Ls.Right leader who now ttl)(he:s.ep≠0)(h1:s.who=who)(h2:s.ep=ep)(h3:now<s.till):
  Ls.renewS (tab s) leader who ep now ttl=tab {s with till:=max s.till (Bk.late now ttl)}∧Ls.renewE (tab s) leader who ep now ttl=0:=by
 have e:Ls.renewE (tab s) leader who ep now ttl=0:=by
  unfold Ls.renewE;rw[if_neg (fun h=>h hr),find_tab,if_neg he];show(if Ls.Other ⟨leader,s.who,s.ep,s.till,false⟩ who ep then 8 else if false=true∨s.till≤now then 9 else 0)=0;rw[if_neg (by unfold Ls.Other;simp[h1,h2]),if_neg (by rintro(h|h);cases h;omega)]
 refine⟨?_,e⟩;unfold Ls.renewS Ls.renewed;rw[if_pos e,find_tab,if_neg he];show(⟨(tab s).margin,Ls.put (tab s).l ⟨leader,s.who,s.ep,max s.till (Ls.late now ttl),false⟩⟩:Ls.St)=_;rw[put_tab,tab_some (s:={s with till:=max s.till (Bk.late now ttl)}) he]
 rfl
theorem get_tab{s:St}(he:s.ep≠0):Ls.holderOf (tab s).l leader=s.who∧Ls.epochOf (tab s).l leader=s.ep∧Ls.tillOf (tab s).l leader=s.till:=by
 unfold Ls.holderOf Ls.epochOf Ls.tillOf;rw[find_tab,if_neg he];exact⟨rfl,rfl,rfl⟩
theorem digs_len{n:Int}(h:Spc.i64 n):(Spc.digs n).length≤20:=by
 unfold Spc.i64 at h;unfold Spc.digs;have:=Spc.dg_len n.natAbs 18 (by omega);split
 ·rw[List.length_cons];omega
 ·omega
def key(n:Int):ByteArray:=txt (Spc.digs n)
theorem key_inj{a b:Int}(h:key a=key b):a=b:=by
 have h1:=congrArg (fun t:ByteArray=>t.data.toList) h;simp only[key,Spc.txt_bts,←Spc.itoa_is]at h1;have h2:=Spc.atoi_itoa a;rw[h1,Spc.atoi_itoa b]at h2;exact(Option.some.inj h2).symm
theorem key_one(n:Int):1≤(key n).size:=by
 unfold key;rw[jce];rcases Nat.eq_zero_or_pos (Spc.digs n).length with h|h
 ·have h1:=Spc.atoi_itoa n
  rw[Spc.itoa_is,List.eq_nil_of_length_eq_zero h]at h1
  cases h1
 ·omega
theorem key_ten{n:Int}(h0:0≤n)(h9:n<1000000000):(Spc.digs n).length≤9:=by
 have h1:=(Spc.num_digs n h0 h9);have h2:Spc.numB (Spc.digs n)=true:=h1.2;unfold Spc.numB at h2;rw[Bool.and_eq_true,decide_eq_true_eq,Spc.from_digs,if_neg (by omega)]at h2;omega
def Digs(K:Kv.St)(vs:List Vn):Prop:=(K.l.map fun e=>(e.key,e.val)).Perm (vs.map fun v=>(key v.n,v.t))
section
variable{K:Kv.St}{vs:List Vn}
theorem Digs.len(h:Digs K vs):K.l.length=vs.length:=by have:=h.length_eq;simpa using this
theorem dig_mem{vs:List Vn}(hr:vs.Pairwise fun a b=>a.n<b.n){v:Vn}(hv:v∈vs):Bk.dig vs v.n=some v.t:=by
 induction vs with
 |nil=>cases hv
 |cons x vs ih=>
  have hp:=List.pairwise_cons.1 hr;unfold Bk.dig;rcases List.mem_cons.1 hv with rfl|hv
  ·rw[if_pos rfl]
  ·have:=hp.1 v hv
   rw[if_neg (by omega),ih hp.2 hv]
theorem Digs.find(h:Digs K vs)(hg:Kv.Good K)(hr:vs.Pairwise fun a b=>a.n<b.n)(n:Int):(Kv.find K.l (key n)).map (·.val)=Bk.dig vs n:=by
 cases hf:Kv.find K.l (key n)with
 |some e=>
  obtain⟨h1,h2⟩:=Kv.find_some hf;have h3:(e.key,e.val)∈vs.map fun v=>(key v.n,v.t):=h.mem_iff.1 (List.mem_map.2 ⟨e,h1,rfl⟩);obtain⟨v,hv,he⟩:=List.mem_map.1 h3;have e1:key v.n=e.key:=congrArg Prod.fst he;have e2:v.t=e.val:=congrArg Prod.snd he;have:=key_inj (e1.trans h2);rw[←this,dig_mem hr hv,e2];rfl
 |none=>
  show none=_
  symm
  refine Bk.dig_none fun v hv hn=> ?_;have h3:(key v.n,v.t)∈K.l.map fun e=>(e.key,e.val):=h.mem_iff.2 (List.mem_map.2 ⟨v,hv,rfl⟩);obtain⟨e,he,hq⟩:=List.mem_map.1 h3;have e1:e.key=key v.n:=congrArg Prod.fst hq;rw[hn]at e1;exact Kv.find_none.1 hf e he e1
theorem Digs.val(h:Digs K vs)(hg:Kv.Good K)(hr:vs.Pairwise fun a b=>a.n<b.n)(n:Int):Kv.valOf K.l (key n)=Bk.text vs n∧(Kv.revOf K.l (key n)≠0↔Bk.has vs n=true):=by
 have h1:=h.find hg hr n;unfold Kv.valOf Kv.revOf Bk.text Bk.has;rw[←h1]
 cases hf:Kv.find K.l (key n)with
 |none=>simp
 |some e=>
  have:=(hg.revs e (Kv.find_some hf).1).1;simp;omega
theorem none_digs:Digs Kv.St.none []:=List.Perm.refl _
theorem Digs.keys(h:Digs K vs):(Kv.keysOf K.l).Perm (vs.map fun v=>key v.n):=by
 have:=h.map Prod.fst;simp only[List.map_map]at this;exact this
end
def told(u:Un):Un:=⟨u.v,u.q,u.d|| decide (u.q=0)⟩
def Raw(ru us:Nat→Un):Prop:=∀i,i<16→us i=told (ru i)∧((ru i).q=0→(ru i).d=false)
theorem Raw.same{ru us ru' us':Nat→Un}(h:Raw ru us)(h':Raw ru' us'):(∀i,i<16→us i=us' i)↔∀i,i<16→ru i=ru' i:=by
 constructor
 ·intro e i hi
  have h1:=e i hi;rw[(h i hi).1,(h' i hi).1]at h1;have h2:=(h i hi).2;have h3:=(h' i hi).2;generalize ru i=a at*;generalize ru' i=b at*;obtain⟨a1,a2,a3⟩:=a;obtain⟨b1,b2,b3⟩:=b;unfold told at h1;injection h1 with e1 e2 e3
  simp only at e1 e2 e3 h2 h3;subst e1 e2;by_cases h0:a2=0
  ·rw[h2 h0,h3 h0]
  ·simp[h0]at e3
   rw[e3]
 ·intro e i hi
  rw[(h i hi).1,(h' i hi).1,e i hi]
theorem new_raw:Raw (fun _=>⟨0,0,false⟩) (fun _=>⟨0,0,true⟩):=fun _ _=>⟨rfl,fun _=>rfl⟩
theorem Raw.intent{ru us:Nat→Un}(h:Raw ru us)(k:Nat)(v q:Int)(hq:q≠0):Raw (Bk.setU ru k ⟨v,q,false⟩) (Bk.setU us k ⟨v,q,false⟩):=by
 intro i hi;unfold Bk.setU;by_cases hk:i=k
 ·rw[if_pos hk,if_pos hk]
  refine⟨?_,fun _=>rfl⟩;unfold told;simp[hq]
 ·rw[if_neg hk,if_neg hk]
  exact h i hi
theorem Raw.ack{ru us:Nat→Un}(h:Raw ru us)(k:Nat)(hk:k<16)(hq:(ru k).q≠0):Raw (Bk.setU ru k {ru k with d:=true}) (Bk.setU us k {us k with d:=true}):=by
 intro i hi;unfold Bk.setU;by_cases hk2:i=k
 ·rw[if_pos hk2,if_pos hk2,(h k hk).1]
  refine⟨?_,fun h0=>absurd h0 hq⟩;unfold told;simp
 ·rw[if_neg hk2,if_neg hk2]
  exact h i hi
end Bd
namespace Bd
open Bk (St Un Vn)
theorem putK_perm(l:List Kv.En)(e:Kv.En):(Kv.putK l e).Perm (e::l):=by
 induction l with
 |nil=>exact List.Perm.refl _
 |cons x l ih=>
  rw[Kv.putK_cons];split
  ·exact List.Perm.refl _
  ·exact(List.Perm.cons x ih).trans (List.Perm.swap _ _ _)
theorem pub_perm(l:List Vn)(v:Vn):(Bk.pub l v).Perm (v::l):=by
 induction l with
 |nil=>exact List.Perm.refl _
 |cons x l ih=>
  unfold Bk.pub;split
  ·exact List.Perm.refl _
  ·exact(List.Perm.cons x ih).trans (List.Perm.swap _ _ _)
theorem dropK_no{l:List Kv.En}{k:ByteArray}(h:∀e∈l,e.key≠k):Kv.dropK l k=l:=by
 unfold Kv.dropK;rw[List.filter_eq_self];intro e he;rw[Bool.not_eq_true',←Bool.not_eq_true];exact fun h2=>h e he (Kv.teq.1 h2)
abbrev pr(e:Kv.En):ByteArray×ByteArray:=(e.key,e.val)
abbrev po(o:Kv.Po):ByteArray×ByteArray:=(o.key,o.val)
theorem step_perm{r:Int}{l:List Kv.En}{o:Kv.Po}(hd:o.drop=false)(hn:∀e∈l,e.key≠o.key):((Kv.step r l o).map pr).Perm (po o::l.map pr):=by
 unfold Kv.step;rw[if_neg (by rw[hd];simp),dropK_no hn];exact(putK_perm l _).map pr
theorem steps_perm(r:Int):∀(ops:List Kv.Po) (l:List Kv.En),(∀o∈ops,o.drop=false)→(ops.Pairwise fun a b=>a.key≠b.key)→(∀o∈ops,∀e∈l,e.key≠o.key)→((ops.foldl (Kv.step r) l).map pr).Perm (ops.map po++l.map pr):=by
 intro ops
 induction ops with
 |nil=>intro l _ _ _;exact List.Perm.refl _
 |cons o ops ih=>
  intro l h1 h2 h3;have hp:=List.pairwise_cons.1 h2;have hs:=step_perm (r:=r) (h1 o (List.mem_cons_self ..)) (h3 o (List.mem_cons_self ..));refine(ih (Kv.step r l o) (fun x hx=>h1 x (List.mem_cons_of_mem _ hx)) hp.2 fun x hx e he=> ?_).trans ?_
  ·have hm:pr e∈po o::l.map pr:=hs.mem_iff.1 (List.mem_map.2 ⟨e,he,rfl⟩)
   rcases List.mem_cons.1 hm with hm|hm
   ·have:e.key=o.key:=congrArg Prod.fst hm
    rw[this];exact hp.1 x hx
   ·obtain⟨e',he',hq⟩:=List.mem_map.1 hm
    have:e'.key=e.key:=congrArg Prod.fst hq;rw[←this];exact h3 x (List.mem_cons_of_mem _ hx) e' he'
  ·refine((List.Perm.refl (ops.map po)).append hs).trans ?_
   exact List.perm_middle
theorem puts_new{K:Kv.St}{ops:List Kv.Po}(hg:Kv.Good K)(h0:0<ops.length)(h1:∀o∈ops,o.drop=false∧o.rev=0)(h2:ops.Pairwise fun a b=>a.key≠b.key)(h3:∀o∈ops,∀e∈K.l,e.key≠o.key)(h4:∀o∈ops,Kv.PoOk o)(h5:K.l.length+ops.length≤64):
  Kv.doE K ops=0∧(Kv.doS K ops).rev=K.rev+1∧Kv.Good (Kv.doS K ops)∧((Kv.doS K ops).l.map pr).Perm (ops.map po++K.l.map pr):=by
 have hp:=steps_perm (K.rev+1) ops K.l (fun o ho=>(h1 o ho).1) h2 h3;have hr:∀o∈ops,Kv.revOf K.l o.key=0:=fun o ho=>by
  unfold Kv.revOf;rw[Kv.find_none.2 fun e he hk=>h3 o ho e he hk]
 have e:Kv.doE K ops=0:=by
  refine Kv.doE_ok ⟨h0,h4,h2⟩ (fun o ho hq=> ?_) (fun o ho hq=> ?_) ?_
  ·exact hq.2 (by rw[(h1 o ho).2,hr o ho])
  ·have h6:o.drop=true:=hq.1
   rw[(h1 o ho).1]at h6
   cases h6
  ·have:=hp.length_eq
   simp only[List.length_map,List.length_append]at this;show¬64<(ops.foldl (Kv.step (K.rev+1)) K.l).length;omega
 have es:=(Kv.doS_ok e).1;refine⟨e,by rw[es];rfl,Kv.doS_good hg ops,?_⟩;rw[es];exact hp
theorem Digs.pub{K:Kv.St}{vs:List Vn}{n:Int}{t:ByteArray}(h:Digs K vs)(hg:Kv.Good K)(hr:vs.Pairwise fun a b=>a.n<b.n)(hn:Bk.has vs n=false)(hl:vs.length<64)(h0:0≤n)(h9:n<1000000000)(ht:1≤t.size∧t.size≤64):
  Kv.doE K [⟨key n,t,0,false⟩]=0∧(Kv.doS K [⟨key n,t,0,false⟩]).rev=K.rev+1∧Kv.Good (Kv.doS K [⟨key n,t,0,false⟩])∧Digs (Kv.doS K [⟨key n,t,0,false⟩]) (Bk.pub vs ⟨n,t⟩):=by
 have hno:Kv.find K.l (key n)=none:=by
  have h1:=h.find hg hr n;unfold Bk.has at hn
  cases e:Kv.find K.l (key n)with
  |none=>rfl
  |some x=>rw[e]at h1;rw[←h1]at hn;cases hn
 have hk:=key_ten h0 h9;obtain⟨a,b,c,d⟩:=puts_new (K:=K) (ops:=[⟨key n,t,0,false⟩]) hg (by simp) (fun o ho=>by rw[List.mem_singleton.1 ho];exact⟨rfl,rfl⟩) (List.pairwise_singleton _ _) (fun o ho e he=>by rw[List.mem_singleton.1 ho];exact Kv.find_none.1 hno e he)
  (fun o ho=>by rw[List.mem_singleton.1 ho];exact⟨key_one n,by show(key n).size≤64;unfold key;rw[jce];omega,ht.2⟩) (by rw[h.len];simp;omega)
 refine⟨a,b,c,?_⟩;refine d.trans ?_;refine List.Perm.trans ?_ (((pub_perm vs ⟨n,t⟩).map fun v=>(key v.n,v.t)).symm);exact List.Perm.cons _ h
end Bd
open Go.Deep Go.Maps Go.RowKit
section
variable{w:World}{g:Nat}{a b c:Int}
theorem jjm:(Tryz.prog.info? 260).map (·.size)=some 3:=by kernel_rfl
theorem LsCells.c0(h:w.heap[g]? =some (.cells #[.int .i64 a,.int .i64 b,.int .i64 c] 260 (0,0))):w.cell? ⟨g,0,none⟩=some (.int .i64 a):=by rw[cell_of_row w g 0 _ _ _ h];rfl
theorem LsCells.c1(h:w.heap[g]? =some (.cells #[.int .i64 a,.int .i64 b,.int .i64 c] 260 (0,0))):w.cell? ⟨g,1,none⟩=some (.int .i64 b):=by rw[cell_of_row w g 1 _ _ _ h];rfl
theorem LsCells.c2(h:w.heap[g]? =some (.cells #[.int .i64 a,.int .i64 b,.int .i64 c] 260 (0,0))):w.cell? ⟨g,2,none⟩=some (.int .i64 c):=by rw[cell_of_row w g 2 _ _ _ h];rfl
end
theorem jc3(W:World)(q:Nat)(cs:Array Value)(ty:TypeId)(mo:Option Nat)(s:Ls.St)(h:LsIs W q cs ty mo s)(k:ByteArray)(hk:k.size≤maxLen):
  Calls Tryz.prog 207 #[.pointer (some ⟨q,0,none⟩),.string k] W (LGet s k W):=by
 obtain⟨W1,hW1⟩:∃W1,W1=W.alloc (.cells #[.int .i64 0,.int .i64 0,.int .i64 0] 260):=⟨_,rfl⟩;have B1:=zh ((Below.refl W.heap.size W).alloc (Nat.le_refl _) (.cells #[.int .i64 0,.int .i64 0,.int .i64 0] 260));have R1:=zh (heap_alloc_new W (.cells #[.int .i64 0,.int .i64 0,.int .i64 0] 260));rw[←hW1]at B1 R1;have H1:=h.on B1.out;have hlk:=H1.look k hk;obtain⟨c0,c1,f1,hq⟩:=H1.cells;unfold LGet lval;have TK:=Ls.taken_iff h.good k;generalize(Ls.find s.l k).isSome=x at*;generalize Ls.holderOf s.l k=a at*;generalize Ls.epochOf s.l k=b at*;generalize Ls.tillOf s.l k=c at*;have C:=zh (fun W=>jhz W a b c TK);clear h H1 TK;go_enter Tryz.func207,Tryz.ntmps207;go_upto_region 3 with fail
 obtain⟨g,hg⟩:∃g,g=W.heap.size:=⟨_,rfl⟩;rw[←hW1,←hg];rw[←hg]at R1;have B2:=zh (B1.out.alloc (by have:=B1.out.size;omega) (.cells #[.int .i64 a,.int .i64 b,.int .i64 c] 260));have R2:=zh (jaf R1.out ((Below.refl W1.heap.size W1).alloc (Nat.le_refl _) (.cells #[.int .i64 a,.int .i64 b,.int .i64 c] 260)));have R6:=zh (heap_alloc_new W1 (.cells #[.int .i64 a,.int .i64 b,.int .i64 c] 260));have HG:=zh hg;clear hW1 hg;go_upto_region 4 with fail
 obtain⟨g6,hg6⟩:∃g6,g6=W1.heap.size:=⟨_,rfl⟩;have NE:Hid (g6≠g):=by have:=(Array.getElem?_eq_some_iff.1 R1.out).1;show _≠_;omega
 rw[←hg6]at R6⊢;have BG:Hid (W.heap.size≤g):=Nat.le_of_eq HG.out.symm;clear HG hg6 R1 B1 c0 c1 f1 hq hlk;generalize W1.alloc (.cells #[.int .i64 a,.int .i64 b,.int .i64 c] 260)=W6 at*;refine wp_region_held_drew (S:=fun W=>W.heap[g6]? =some (.cells #[.int .i64 a,.int .i64 b,.int .i64 c] 260 (0,0))) (by kernel_rfl) R6.out (fun hS=> ?_);have B3:=zh B2.out.drew;refine tZ 0 rfl (by intro W hW;have d0:=LsCells.c0 hW;have d1:=LsCells.c1 hW;have d2:=LsCells.c2 hW;go_simp;(try with_reducible rfl)) hS ?_;refine tZ 1 rfl (by intro W hW;have d0:=LsCells.c0 hW;have d1:=LsCells.c1 hW;have d2:=LsCells.c2 hW;go_simp;(try with_reducible rfl)) hS ?_;simp only[Act.put,zT,zO,zS];refine rO 2 (fun K hK=> ?_);go_simp
 with_reducible refine(C.out _).mono ?_
 rintro e w7 ⟨rfl,hb⟩;have hS2:=jaf hS hb;have RG:=zh (jaf (W:=W6.drew) R2.out hb);have B4:=zh (B3.out.trans (hb.mono B3.out.size));clear hS hb;have hS:=hS2;clear hS2;refine hK.out _ _ hS (fun _=> ?_);clear hK K;try simp only[Act.put,zT,zO,zS]
 refine rO 3 (fun K hK=> ?_);refine wp_store_row 260 (.tmp 4) (.tmp 16) rfl g #[.int .i64 a,.int .i64 b,.int .i64 c] rfl rfl 260 _ RG.out jjm rfl (by simp[Value.oneCell']) ?_;have hS2:=(setRow_other w7 g g6 #[.int .i64 a,.int .i64 b,.int .i64 c] NE.out).trans hS;have RS:=setRow_heap w7 g _ #[.int .i64 a,.int .i64 b,.int .i64 c] _ _ RG.out;have B5:=zh (below_setRow B4.out BG.out #[.int .i64 a,.int .i64 b,.int .i64 c]);have e0:=LsCells.c0 RS;have e1:=LsCells.c1 RS;have e2:=LsCells.c2 RS;clear hS RG RS;have hS:=hS2;clear hS2;generalize w7.setRow g #[.int .i64 a,.int .i64 b,.int .i64 c]=w8 at*;refine hK.out _ _ hS (fun _=> ?_);clear hK K;try simp only[Act.put]
 refine tY 4 hS ?_;simp only[Act.put,zT,zO,zS];refine wpAnyH_done (by kernel_rfl) ?_ _;go_wp2_with fail;exact bodyPost_ret (v:= .tuple #[leV a b c,.bool x]) (by simp[results,Tryz.results207,go_sem,e0,e1,e2]) rfl ⟨rfl,B5.out⟩
theorem jh3(W:World)(q:Nat)(cs:Array Value)(ty:TypeId)(mo:Option Nat)(s:Ls.St)(h:LsIs W q cs ty mo s)(k:ByteArray)(hk:k.size≤maxLen)(now:Int){x:Bool}(hx:x=true↔Ls.Free s k now):
  Calls Tryz.prog 204 #[.pointer (some ⟨q,0,none⟩),.string k,.int .i64 now] W (fun e w'=>e= .returned (.bool x)∧Below W.heap.size W w'):=by
 have TT:=Ls.till_time h.good k;have m0:=h.good.m0;have m1:=h.good.m1;rw[Ls.free_iff h.good]at hx;obtain⟨a,ha⟩:∃a,a=Ls.holderOf s.l k:=⟨_,rfl⟩;obtain⟨b,hb⟩:∃b,b=Ls.epochOf s.l k:=⟨_,rfl⟩;obtain⟨c,hc⟩:∃c,c=Ls.tillOf s.l k:=⟨_,rfl⟩;rw[←hc]at TT hx;have C:=zh (fun W=>jfg W a b c now s.margin TT.1 TT.2 m0 m1 hx);have EA:=zh ha.symm;have EB:=zh hb.symm;have EC:=zh hc.symm;have HKS:=zh hk;have H:=zh h;clear TT m0 m1 hx ha hb hc hk h;go_enter Tryz.func204,Tryz.ntmps204;go_upto_region 1 with fail
 refine wp_region_held_drew (S:=fun W=>LsIs W q cs ty mo s) (by kernel_rfl) (H.out.on (Below.refl W.heap.size W).drew) (fun hS=> ?_);refine tY 0 hS ?_;refine tY 1 hS ?_;refine tY 2 hS ?_;refine tY 3 hS ?_;refine tY 4 hS ?_;refine tY 5 hS ?_;simp only[Act.put,zT,zO,zS];refine tZ 6 rfl (by intro W hW;obtain⟨c0,c1,f1,hq⟩:=hW.cells;have hlk:=hW.look k HKS.out;rw[EA.out,EB.out,EC.out]at hlk;unfold leV at hlk;go_simp;(try with_reducible rfl)) hS ?_;refine tY 7 hS ?_;refine tZ 8 rfl (by intro W hW;obtain⟨c0,c1,f1,hq⟩:=hW.cells;have hlk:=hW.look k HKS.out;rw[EA.out,EB.out,EC.out]at hlk;unfold leV at hlk;go_simp;(try with_reducible rfl)) hS ?_;refine tY 9 hS ?_;refine tY 10 hS ?_;refine tY 11 hS ?_;simp only[Act.put,zT,zO,zS];refine tY 12 hS ?_;refine tZ 13 rfl (by intro W hW;obtain⟨c0,c1,f1,hq⟩:=hW.cells;have hlk:=hW.look k HKS.out;rw[EA.out,EB.out,EC.out]at hlk;unfold leV at hlk;go_simp;(try with_reducible rfl)) hS ?_;simp only[Act.put,zT,zO,zS];refine rO 14 (fun K hK=> ?_);go_simp
 with_reducible refine(C.out _).mono ?_
 rintro e w7 ⟨rfl,hb⟩;have hS2:=hS.on hb;have B3:=zh ((Below.refl W.heap.size W).drew.trans hb);clear hS hb;have hS:=hS2;clear hS2;refine hK.out _ _ hS (fun _=> ?_);clear hK K;refine tY 15 hS ?_;refine tY 16 hS ?_;simp only[Act.put,zT,zO,zS];refine wpAnyH_done (by kernel_rfl) ?_ _;go_wp2_with fail;go_ret;exact⟨rfl,B3.out⟩
theorem jlg(t k e:TypeId)(m:Option Nat)(w:World)(h:Tryz.prog.underlying t=some (.map k e)):(binOp .eql t (.map m) (.map none)).run Tryz.prog w= .ok (.bool m.isNone) w:=by
 simp only[binOp];simp[run_equal_map_nil w t k e m h]
def jn7(W:World)(q:Nat)(cs:Array Value)(ty:TypeId)(mo:Option Nat)(s':Ls.St)(e:Ending)(w':World):Prop:=
 ∃mo',e= .returned (.tuple #[])∧LsIs w' q (cs.setIfInBounds 1 (.map mo')) ty mo' s'∧Kept (fun i=>i=q∨mo=some i) W w'∧∀m,mo'=some m→mo=some m∨W.heap.size≤m
theorem jew(W:World)(q:Nat)(cs:Array Value)(ty:TypeId)(mo:Option Nat)(s:Ls.St)(h:LsIs W q cs ty mo s)(k:ByteArray)(hk:k.size≤maxLen)(a b c:Int)(d:Bool)(hg2:Ls.Good ⟨s.margin,Ls.put s.l ⟨k,a,b,c,d⟩⟩)(hf2:Ls.Few ⟨s.margin,Ls.put s.l ⟨k,a,b,c,d⟩⟩ 2199023255553):
  Calls Tryz.prog 252 #[.pointer (some ⟨q,0,none⟩),.string k,leV a b c] W (jn7 W q cs ty mo ⟨s.margin,Ls.put s.l ⟨k,a,b,c,d⟩⟩):=by
 have GD:=zh hg2;have FW:=zh hf2;have LN:Hid (s.l.length<maxLen):=by have:=h.few.2;show _<_;unfold maxLen;omega
 have heq:=fun m w=>jlg _ _ _ m w Tryz.underlying118;obtain⟨W1,hW1⟩:∃W1,W1=W.alloc (.cells #[.int .i64 a,.int .i64 b,.int .i64 c] 260):=⟨_,rfl⟩;have hb1:=(Below.refl W.heap.size W).alloc (Nat.le_refl _) (.cells #[.int .i64 a,.int .i64 b,.int .i64 c] 260);have hr1:=heap_alloc_new W (.cells #[.int .i64 a,.int .i64 b,.int .i64 c] 260);rw[←hW1]at hb1 hr1;obtain⟨g,hg⟩:∃g,g=W.heap.size:=⟨_,rfl⟩;rw[←hg]at hr1;have R1:=zh hr1;have B1:=zh hb1;have H1:=zh (h.on hb1);have HG:=zh hg;have HW:=zh hW1;have HL:=zh h.cells.2.2.2;have HKS:=zh hk;have HML:Hid (∀m,mo=some m→m<W.heap.size):=fun m e=>by subst e;exact MapW.Opt.lt h.map
 clear h hk hg2 hf2 hW1 hb1 hr1 hg
 cases mo with
 |some m=>
  have D1:=zh (H1.out.on (Below.refl W1.heap.size W1).drew);obtain⟨wd,hrun,hmd,htd⟩:=MapW.At.put (M:=LM) D1.out.map LN.out k (a,b,c) HKS.out;have MD:=zh hmd;have TD:=zh htd;have RW:Hid (wd.heap[q]? =some (.cells cs ty (0,0))):=(htd.grown.block q (by have:=HL.out;have:=B1.out.size;show q<W1.heap.size;omega) (fun e=>H1.out.ne (by injection e))).trans D1.out.row;have K2:Hid (Kept (fun i=>i=q∨some m=some i) W wd):=((Kept.of_below (F:=fun i=>i=q∨some m=some i) B1.out).trans (Kept.of_below (F:=fun _=>False) (Below.refl W1.heap.size W1).drew) fun _ _ hf=>hf.elim).trans (G:=fun i=>i=m) (Kept.of_grown htd.grown (fun k hk=>by injection hk with hk;exact hk.symm)) fun i _ hi=> .inr (by rw[hi])
  have hrun2:(Instr.mapUpdate 118 (.map (some m)) (.string k) (.agg #[.int .i64 a,.int .i64 b,.int .i64 c])).run Tryz.prog W1.drew= .ok () wd:=hrun;clear hrun hmd htd;obtain⟨c0,c1,f1,hq⟩:=H1.out.cells;have d0:=LsCells.c0 R1.out;have d1:=LsCells.c1 R1.out;have d2:=LsCells.c2 R1.out;unfold leV;go_enter Tryz.func252,Tryz.ntmps252;go_upto_region 1 with fail
  rw[←HW.out,←HG.out];go_upto_region 3 with fail
  go_region;go_wp2_with fail;go_end0;refine⟨some m,rfl,?_,K2.out,fun x hx=> .inl hx⟩;rw[set_same H1.out.k1];refine⟨RW.out,H1.out.k0,H1.out.k1,?_,GD.out,FW.out⟩;have:=MD.out;rw[←show Ls.zOf (Ls.put s.l ⟨k,a,b,c,d⟩)=_ from Ls.zOf_put s.l ⟨k,a,b,c,d⟩,Ls.zOf_some,←Ls.put_length H1.out.good.rise ⟨k,a,b,c,d⟩]at this;exact this
 |none=>
  have hmm:=@run_makeMap Tryz.prog;have BM:=zh ((Below.refl W1.heap.size W1).alloc (Nat.le_refl _) (.map #[] 0));have S0:=zh (MapW.At.made (M:=LM) W1);have EL:Hid ((∀k,Ls.zOf s.l k=none)∧s.l.length=0):=H1.out.map;have RW0:=zh (H1.out.on BM.out).row;have GD0:=zh H1.out.good;have HK0:=zh H1.out.k0;have HK1:=zh H1.out.k1;have f1:W1.frozen? ⟨q,1,none⟩=false:=H1.out.cells.2.2.1;obtain⟨c0,c1,_,hq⟩:=H1.out.cells;have EW:Hid ((W1.alloc (.map #[] 0)).setCell ⟨q,1,none⟩ (.map (some W1.heap.size))=(W1.setCell ⟨q,1,none⟩ (.map (some W1.heap.size))).alloc (.map #[] 0)):=World.setCell_alloc_past _ _ _ _ hq;have RQ:Hid (((W1.alloc (.map #[] 0)).setCell ⟨q,1,none⟩ (.map (some W1.heap.size))).heap[q]? =some (.cells (cs.setIfInBounds 1 (.map (some W1.heap.size))) ty (0,0))):=heap_setCell_same _ _ _ _ _ _ RW0.out;have MP:Hid (LM.At ((W1.alloc (.map #[] 0)).setCell ⟨q,1,none⟩ (.map (some W1.heap.size))) W1.heap.size (Ls.zOf s.l) s.l.length):=by
   have h0:=S0.out.keep (heap_setCell_other (W1.alloc (.map #[] 0)) ⟨q,1,none⟩ W1.heap.size (.map (some W1.heap.size)) (by simp;omega));rw[show(fun _:ByteArray=>(none:Option (Int×Int×Int)))=Ls.zOf s.l from(funext EL.out.1).symm]at h0;show LM.At _ _ (Ls.zOf s.l) s.l.length;rw[EL.out.2];exact h0
  have KP:Hid (Kept (fun i=>i=q∨none=some i) W ((W1.alloc (.map #[] 0)).setCell ⟨q,1,none⟩ (.map (some W1.heap.size)))):=(Kept.of_below (F:=fun i=>i=q∨none=some i) (B1.out.trans (BM.out.mono B1.out.size))).trans (G:=fun i=>i=q) (Kept.of_grown (row:=some q) (jam _ _ _ _) (fun k hk=>by injection hk with hk;exact hk.symm)) fun i _ hi=> .inl hi
  have RG:Hid (((W1.alloc (.map #[] 0)).setCell ⟨q,1,none⟩ (.map (some W1.heap.size))).heap[g]? =some (.cells #[.int .i64 a,.int .i64 b,.int .i64 c] 260 (0,0))):=(heap_setCell_other (W1.alloc (.map #[] 0)) ⟨q,1,none⟩ g (.map (some W1.heap.size)) (by have:=HL.out;have:=HG.out;simp;omega)).trans (jaf R1.out BM.out);rw[EW.out]at RQ MP KP RG;unfold leV;go_enter Tryz.func252,Tryz.ntmps252;go_upto_region 1 with fail
  rw[←HW.out,←HG.out];go_upto_region 3 with fail
  obtain⟨m,hm⟩:∃m,m=W1.heap.size:=⟨_,rfl⟩;have NW:Hid (W.heap.size≤m):=by have:=B1.out.size;show _≤_;omega
  rw[←hm]at RQ MP KP RG⊢;clear hm hmm c0 c1 f1 hq BM S0 RW0 EW H1 R1 HW;generalize(W1.setCell ⟨q,1,none⟩ (.map (some m))).alloc (.map #[] 0)=W5 at*;have hqm:q≠m:=fun e=>by
   obtain⟨es,clock,hb⟩:=MapW.At.block (M:=LM) MP.out;have:=RQ.out;rw[e,hb]at this;injection this with this
   cases this
  have HQM:=zh hqm;have c1:W5.cell? ⟨q,1,none⟩=some (.map (some m)):=by rw[cell_of_row W5 q 1 _ _ _ RQ.out];exact set_k1 HK1.out
  have d0:=LsCells.c0 RG.out;have d1:=LsCells.c1 RG.out;have d2:=LsCells.c2 RG.out;have D1:=zh (MapW.At.on (M:=LM) MP.out (Below.refl W5.heap.size W5).drew);obtain⟨wd,hrun,hmd,htd⟩:=MapW.At.put (M:=LM) D1.out LN.out k (a,b,c) HKS.out;have MD:=zh hmd;have RW:Hid (wd.heap[q]? =some (.cells (cs.setIfInBounds 1 (.map (some m))) ty (0,0))):=(htd.grown.block q (Array.getElem?_eq_some_iff.1 RQ.out).1 (fun e=>HQM.out (by injection e))).trans RQ.out;have K2:Hid (Kept (fun i=>i=q∨none=some i) W wd):=(KP.out.trans (Kept.of_below (F:=fun _=>False) (Below.refl W5.heap.size W5).drew) fun _ _ hf=>hf.elim).trans (G:=fun i=>i=m) (Kept.of_grown htd.grown (fun k hk=>by injection hk with hk;exact hk.symm)) fun i hi e=>by have:=NW.out;omega
  have hrun2:(Instr.mapUpdate 118 (.map (some m)) (.string k) (.agg #[.int .i64 a,.int .i64 b,.int .i64 c])).run Tryz.prog W5.drew= .ok () wd:=hrun;clear hrun hmd htd hqm;go_region;go_wp2_with fail;go_end0;refine⟨some m,rfl,⟨RW.out,set_k0 HK0.out,set_k1 HK1.out,?_,GD.out,FW.out⟩,K2.out,fun x hx=> .inr (by injection hx with hx;have:=NW.out;omega)⟩
  have:=MD.out;rw[←show Ls.zOf (Ls.put s.l ⟨k,a,b,c,d⟩)=_ from Ls.zOf_put s.l ⟨k,a,b,c,d⟩,Ls.zOf_some,←Ls.put_length GD0.out.rise ⟨k,a,b,c,d⟩]at this;exact this
end Go.Proofs.YtabandbigckfkaaGreatDoor
namespace Go.Proofs.YtabandbigckfkaaGreatDoor
open Go.RowKit Go.Maps Go.Proofs
def toL(k:ByteArray):List UInt8:=k.data.toList
theorem toL_inj{a b:ByteArray}(h:toL a=toL b):a=b:=ByteArray.ext (Array.ext' h)
theorem toL_eq(k:ByteArray):k.toList=toL k:=ByteArray.toList_eq k
def ofL(x:List UInt8):ByteArray:=⟨x.toArray⟩
theorem ofL_toL(k:ByteArray):ofL (toL k)=k:=by unfold ofL toL;simp
theorem enc_toL(k:ByteArray):encStr (toL k)= .string k:=by show Value.string (ofL (toL k))=_;rw[ofL_toL]
theorem jlh(ks:List ByteArray):(ks.map toL).map encStr=ks.map Value.string:=by
 rw[List.map_map];exact List.map_congr_left fun k _=>enc_toL k
theorem bl_lt:∀x y:List UInt8,Op.bytesLess x y=decide (x<y)
 |[],[]=>rfl
 |[],_::_=>by simp[Op.bytesLess]
 |_::_,[]=>by simp[Op.bytesLess]
 |a::x,b::y=>by
  simp only[Op.bytesLess,bl_lt x y,List.cons_lt_cons_iff];by_cases h:a<b<;>by_cases h2:a=b<;>simp[h,h2]
theorem lt_iff{a b:ByteArray}:Kv.lt a b↔toL a<toL b:=by
 unfold Kv.lt;rw[toL_eq,toL_eq,bl_lt,decide_eq_true_eq]
def jfy(ks:List ByteArray):List ByteArray:=((ks.map toL).mergeSort leB).map ofL
theorem jgs(ks:List ByteArray):(jfy ks).map toL=(ks.map toL).mergeSort leB:=by
 unfold jfy;rw[List.map_map]
 conv=>rhs;rw[←List.map_id ((ks.map toL).mergeSort leB)]
 refine List.map_congr_left fun x _=> ?_;show toL (ofL x)=x;unfold toL ofL;simp
theorem jd2(ks:List ByteArray):(jfy ks).length=ks.length:=by unfold jfy;simp
theorem jn8{ks ts:List ByteArray}(hn:ks.Nodup)(hr:ts.Pairwise Kv.lt)(hm:∀k,k∈ks↔k∈ts):jfy ks=ts:=by
 have hnt:ts.Nodup:=hr.imp fun h=>Kv.lt_ne h;have hp:ks.Perm ts:=(List.perm_ext_iff_of_nodup hn hnt).2 hm;have tr:∀a b c:List UInt8,leB a b=true→leB b c=true→leB a c=true:=fun a b c h1 h2=>by simp only[leB,decide_eq_true_eq]at*;exact List.le_trans h1 h2
 have tot:∀a b:List UInt8,(leB a b|| leB b a)=true:=fun a b=>by simp only[leB,Bool.or_eq_true,decide_eq_true_eq];exact List.le_total a b
 have e:(ks.map toL).mergeSort leB=ts.map toL:=by
  refine List.Perm.eq_of_pairwise (le:=fun a b=>leB a b=true) (fun a b _ _ h1 h2=> ?_) (List.pairwise_mergeSort tr tot _) (List.pairwise_map.2 (hr.imp fun{a b} h=> ?_)) ((List.mergeSort_perm _ leB).trans (hp.map toL))
  ·simp only[leB,decide_eq_true_eq]at h1 h2
   exact List.le_antisymm h1 h2
  ·simp only[leB,decide_eq_true_eq]
   exact List.le_of_lt (lt_iff.1 h)
 have h2:=jgs ks;rw[e]at h2;refine List.ext_getElem? fun i=> ?_;have h3:=congrArg (fun l=>l[i]?) h2;simp only[List.getElem?_map]at h3
 cases h4:(jfy ks)[i]? with
 |none=>rw[h4]at h3;cases h5:ts[i]? with
  |none=>rfl
  |some y=>rw[h5]at h3;cases h3
 |some x=>
  rw[h4]at h3
  cases h5:ts[i]? with
  |none=>rw[h5]at h3;cases h3
  |some y=>rw[h5]at h3;exact congrArg some (toL_inj (Option.some.inj h3))
theorem jjn{l:List Kv.En}(h:Kv.Rise l)(s r:Int):(Kv.since ⟨l,s⟩ r).Pairwise Kv.lt:=by
 unfold Kv.since;exact List.pairwise_map.2 (List.Pairwise.filter _ h)
theorem jli{l:List Kv.En}(h:Kv.Rise l){s r:Int}{k:ByteArray}:k∈Kv.since ⟨l,s⟩ r↔∃e,Kv.find l k=some e∧r<e.rev:=by
 unfold Kv.since;rw[List.mem_map];constructor
 ·rintro⟨e,he,rfl⟩
  rw[List.mem_filter,decide_eq_true_eq]at he;exact⟨e,Kv.find_mem h he.1,he.2⟩
 ·rintro⟨e,he,hr⟩
  have:=Kv.find_some he;exact⟨e,List.mem_filter.2 ⟨this.1,by simpa using hr⟩,this.2⟩
def Coll(l:List Kv.En)(r:Int)(left:Lit→Bool)(ks:List ByteArray):Prop:=ks.Nodup∧∀k,k∈ks↔(∃e,Kv.find l k=some e∧r<e.rev)∧left (kl k)=false
theorem Coll.start{D:DataW Unit}{l:List Kv.En}(h:DIs D l)(r:Int):Coll l r (Maps.has D) []:=by
 refine⟨List.nodup_nil,fun k=> ?_⟩;simp only[List.not_mem_nil,false_iff,not_and];rintro⟨e,he,_⟩ h2;have:=h.has k;rw[he,h2]at this
 cases this
theorem same_kl{k x:ByteArray}:(kl k).sameKey (kl x)=decide (k=x):=by
 by_cases h:k=x
 ·subst h;rw[WideAt.sameKey_self (jc1 k)];simp
 ·rw[Maps.sameKey_ne (fun e=>h (jet e))];simp[h]
theorem Coll.step{l:List Kv.En}{r:Int}{left:Lit→Bool}{ks:List ByteArray}(h:Coll l r left ks){x:ByteArray}{e:Kv.En}(hx:left (kl x)=true)(he:Kv.find l x=some e):
  Coll l r (fun z=>left z&& !z.sameKey (kl x)) (if r<e.rev then ks++[x]else ks):=by
 have hnew:x∉ks:=fun hm=>by have:=((h.2 x).1 hm).2;rw[hx]at this;cases this
 by_cases hr:r<e.rev
 ·rw[if_pos hr]
  refine⟨List.nodup_append.2 ⟨h.1,by simp,fun a ha b hb=>by simp at hb;subst hb;exact fun e=>hnew (e▸ha)⟩,fun k=> ?_⟩;rw[List.mem_append,h.2 k];show _↔_∧(left (kl k)&& !(kl k).sameKey (kl x))=false;rw[same_kl];by_cases hk:k=x
  ·subst hk;simp[he,hr]
  ·simp[hk]
 ·rw[if_neg hr]
  refine⟨h.1,fun k=> ?_⟩;rw[h.2 k];show _↔_∧(left (kl k)&& !(kl k).sameKey (kl x))=false;rw[same_kl];by_cases hk:k=x
  ·subst hk;simp[he,hr]
  ·simp[hk]
theorem Coll.all{l:List Kv.En}{r:Int}{left:Lit→Bool}{ks:List ByteArray}(h:Coll l r left ks)(hl:∀z,left z=false)(hr:Kv.Rise l)(s:Int):jfy ks=Kv.since ⟨l,s⟩ r:=
 jn8 h.1 (jjn hr s r) fun k=>by rw[h.2 k,jli hr];simp[hl]
theorem DIs.entry{D:DataW Unit}{l:List Kv.En}(h:DIs D l){x v:ByteArray}{r:Int}(hat:∀z,D.atKey (kl x) z=eD v r):∃e,Kv.find l x=some e∧e.val=v∧e.rev=r:=by
 have h1:=h.has x;rw[Maps.has_true_of_atKey hat]at h1
 cases hf:Kv.find l x with
 |none=>rw[hf]at h1;cases h1
 |some e=>
  obtain⟨e1,e2⟩:=jle ((h.at_ x e hf (eD v r)).symm.trans (hat _));exact⟨e,rfl,e1,e2⟩
structure SortC(P:Program)(f:FuncId):Prop where
 row:∀(blk off cap:Nat) (ss:List (List UInt8)) (w:World),Sort.Holds encStr w blk off ss.toArray→blk<w.heap.size→ss.length<4611686018427387904→Calls P f #[.slice (some ⟨blk,off,none⟩) ss.length cap] w fun e w'=>
  e= .returned (.tuple #[])∧∃n os,w'=Sort.grow (Sort.putRow encStr (Sort.ahead w n) blk off (ss.mergeSort fun x y=>decide (x≤y)).toArray) os
 none_:∀w,Calls P f #[.slice none 0 0] w fun e w'=>e= .returned (.tuple #[])∧w'=w
theorem jn9{P:Program}{f:FuncId}(hS:SortC P f){e:TypeId}{w:World}{B:Nat}{v:Value}{ks:List ByteArray}(h:OwnR 1 (fun _ cs (s:ByteArray)=>cs=[.string s]) e w w B v ks)(hz:ks.length≤1000000):
  Calls P f #[v] w fun en w'=>en= .returned (.tuple #[])∧OwnR 1 (fun _ cs (s:ByteArray)=>cs=[.string s]) e w' w' B v (jfy ks)∧w.grownBy w' v.ownBlock:=by
 obtain⟨xs,h1,h2⟩:=h;have hxs:xs=ks.map Value.string:=by
  have hl:=h1.1;refine List.ext_getElem? fun i=> ?_;by_cases hi:i<ks.length
  ·obtain⟨cs,_,hc,he⟩:=h2 i ks[i] (List.getElem?_eq_getElem hi)
   have:=hc 0 (by omega);rw[Nat.mul_one,Nat.add_zero,he]at this;rw[this];simp[hi]
  ·rw[List.getElem?_eq_none (by omega),List.getElem?_eq_none (by simpa using Nat.le_of_not_lt hi)]
 have own_of:∀(w':World) (ts:List ByteArray),ts.length=ks.length→w'.ownsRow B e 1 v ks.length (ts.map Value.string)→OwnR 1 (fun _ cs (s:ByteArray)=>cs=[.string s]) e w' w' B v ts:=fun w' ts hl ho=>by
  refine⟨_,by rw[hl];exact ho,fun j t hj=>⟨[.string t],rfl,fun i hi=> ?_,rfl⟩⟩;obtain rfl:i=0:=by omega
  rw[Nat.mul_one,Nat.add_zero,List.getElem?_map,hj];rfl
 rcases h1.2 with⟨rfl,h0⟩|⟨g,cap,cur,rfl,hbase,hb,c1,c2,c3,c4⟩
 ·obtain rfl:ks=[]:=List.eq_nil_of_length_eq_zero h0
  refine(hS.none_ w).mono fun en w' ⟨he,hw⟩=>⟨he,?_,?_⟩
  ·have:jfy []=[]:=List.eq_nil_of_length_eq_zero (jd2 [])
   rw[this];exact OwnR.none_ _ _ _ _
  ·subst hw
   exact⟨rfl,rfl,rfl,Nat.le_refl _,fun i hi _=>rfl⟩
 ·rw[Nat.mul_one]at c4
  have hk:(ks.map toL).map encStr=xs:=by rw[jlh,hxs]
  have h5:=hS.row g 0 cap (ks.map toL) w (holds_of_block hb (by rw[List.length_map,hk];exact c4)) (Array.getElem?_eq_some_iff.1 hb).1 (by rw[List.length_map];omega);rw[List.length_map]at h5;refine h5.mono fun en w' ⟨he,n,os,hw⟩=>⟨he,?_,?_⟩
  ·subst hw
   have h6:=ownsRow_sorted (base:=B) (g:=g) (cap:=cap) (n:=n) (os:=os) (ss:=ks.map toL) (ts:=(ks.map toL).mergeSort leB) (by simp) hbase hb (by rw[List.length_map];exact c1) c2 c3;rw[List.length_map]at h6;refine own_of _ _ (jd2 ks) ?_;rw[←jlh,jgs];exact h6
  ·subst hw
   exact grownBy_sorted _
end Go.Proofs.YtabandbigckfkaaGreatDoor
