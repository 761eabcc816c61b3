import Derived.Test.YtabandbigckfkaaGreatDoorQx15
import Derived.RangeFuncNested
import Derived.RangeFuncCalls
import Derived.RangeFuncLeaves
import Derived.OwnWalkIn
import Derived.TacticsInMore
import Derived.LoopNIn
import Derived.LoopIn
import Derived.Maps.OwnIn
set_option maxHeartbeats 6400000
set_option maxRecDepth 100000
set_option linter.unusedSimpArgs false
set_option linter.unusedVariables false
namespace Go.Proofs.YtabandbigckfkaaGreatDoor
open Go.RowKit Cdc
theorem jhq(s:St):(num s).l.length≤s.l.length:=by
 unfold num lost;split
 ·split
  ·simp
  ·simp
 ·omega
theorem jki(s:St):(cnt s).l.length≤s.l.length:=by
 unfold cnt lost;split
 ·exact jhq s
 ·simp
theorem jdg(s:St)(k:Nat):(numsAt s k).l.length≤s.l.length:=by
 induction k with
 |zero=>exact Nat.le_refl _
 |succ k ih=>exact Nat.le_trans (jhq _) ih
def nI(l:List Nat):List Int:=l.map fun x=>((x:Nat):Int)
theorem ja6(l:List Nat):(nI l).length=l.length:=by simp[nI]
theorem jhr(l:List Nat)(x:Nat):nI (l++[x])=nI l++[(x:Int)]:=by simp[nI]
theorem jls{n:Nat}(h:n≤64)(r:List Nat):cnt ⟨digs n++r,0⟩=⟨r,0⟩∧cntV ⟨digs n++r,0⟩=n:=by
 have h1:=num_digs (n:=n) (by omega) r;unfold cnt cntV;rw[h1.2,if_pos h,if_pos h,h1.1];exact⟨rfl,rfl⟩
theorem jpr(s:ByteArray)(h:s.size≤64)(r:List Nat):text ⟨digs s.size++(sb s++r),0⟩=⟨r,0⟩∧textV ⟨digs s.size++(sb s++r),0⟩=sb s:=by
 have h1:=jls h (sb s++r);have hl:s.size≤(sb s++r).length:=by rw[List.length_append,jbk];omega
 unfold text textV;rw[h1.1,h1.2];unfold tk tkV;simp only[if_pos,if_pos hl];have e:=jbk s;rw[←e];exact⟨by rw[List.drop_left],List.take_left⟩
theorem jps(ns:List Int):fl ns=(ns.map Int.toNat).flatMap digs:=by
 unfold fl;rw[List.flatMap_map]
theorem nI_nat{ns:List Int}(h:jb8 ns=true):nI (ns.map Int.toNat)=ns:=by
 unfold nI;rw[List.map_map]
 conv=>rhs;rw[←List.map_id ns]
 apply List.map_congr_left;intro x hx;obtain⟨j,hj,rfl⟩:=List.mem_iff_getElem.1 hx;obtain⟨m,hm,_⟩:=jfe h hj;rw[jag hj]at hm;simp[hm]
theorem nat_lt{ns:List Int}(h:jb8 ns=true):∀n∈ns.map Int.toNat,n<4611686018427387904:=by
 intro n hn;obtain⟨x,hx,rfl⟩:=List.mem_map.1 hn;obtain⟨j,hj,rfl⟩:=List.mem_iff_getElem.1 hx;obtain⟨m,hm,hlt⟩:=jfe h hj;rw[jag hj]at hm;rw[hm];simpa using hlt
theorem jpt{ns:List Int}(h:jb8 ns=true)(r:List Nat)(k:Nat)(hk:k≤ns.length):numsAt ⟨fl ns++r,0⟩ k=⟨fl (ns.drop k)++r,0⟩∧numsV ⟨fl ns++r,0⟩ k=(ns.take k).map Int.toNat:=by
 have:=numsAt_all (ns.map Int.toNat) (nat_lt h) r k (by simpa using hk);rw[jps,jps,List.map_drop,List.map_take];exact this
theorem jpu{ns:List Int}(h:jb8 ns=true)(hk:ns.length≤64)(r:List Nat):list ⟨digs ns.length++(fl ns++r),0⟩=⟨r,0⟩∧nI (listV ⟨digs ns.length++(fl ns++r),0⟩)=ns:=by
 have h1:=jls hk (fl ns++r);have h2:=jpt h r ns.length (Nat.le_refl _);have h3:list ⟨digs ns.length++(fl ns++r),0⟩=⟨r,0⟩:=by
  unfold list;rw[h1.1,h1.2,h2.1,List.drop_length];simp[fl]
 refine⟨h3,?_⟩;unfold listV;rw[h3,if_pos rfl,h1.1,h1.2,h2.2,List.take_length,nI_nat h]
end Go.Proofs.YtabandbigckfkaaGreatDoor
namespace Go.Proofs.YtabandbigckfkaaGreatDoor
open Cdc
namespace Rc
theorem sz_small{n:Int}(h0:0≤n)(h1:n≤1099511627776):sz n≠0:=by
 obtain⟨m,rfl⟩:=Int.eq_ofNat_of_zero_le h0;rw[jln (by omega)];have:=digs_pos m;omega
theorem all_small{l:List Int}(h:∀n∈l,0≤n∧n≤1099511627776):jb8 l=true:=by
 unfold jb8;rw[List.all_eq_true];intro n hn;rw[decide_eq_true_eq];exact sz_small (h n hn).1 (h n hn).2
def bytes(r:R):List Nat:=fl (nums r)++((digs r.text.size++sb r.text)++(if r.kind=3 then digs 12++fl (Spc.flds r.sp)else[]))
def k1(l:List Nat):St:=numsAt ⟨l,0⟩ 5
def v1(l:List Nat):List Int:=nI (numsV ⟨l,0⟩ 5)
def k2(l:List Nat):St:=text (k1 l)
def t2(l:List Nat):ByteArray:=txt (textV (k1 l))
def k3(l:List Nat):St:=if(v1 l).getD 0 0=3 then list (k2 l)else k2 l
def s3(l:List Nat):Spc.Sp:=if(v1 l).getD 0 0=3 then(if(listV (k2 l)).length=12 then Spc.of (nI (listV (k2 l)))else Spc.zero)else Spc.zero
def dec(l:List Nat):R:=⟨(v1 l).getD 0 0,(v1 l).getD 1 0,(v1 l).getD 2 0,(v1 l).getD 3 0,(v1 l).getD 4 0,t2 l,s3 l⟩
theorem dec_app{r:R}(h:right r=true)(x:List Nat):dec (bytes r++x)=r∧k3 (bytes r++x)=⟨x,0⟩:=by
 have ho:=ok_of h;have ha:=all_small ho.nums;have hf:=all_small ho.flds;obtain⟨y,hy⟩:∃y,y=(if r.kind=3 then digs 12++fl (Spc.flds r.sp)else[]):=⟨_,rfl⟩;have eb:bytes r++x=fl (nums r)++((digs r.text.size++sb r.text)++(y++x)):=by
  unfold bytes;rw[←hy];simp only[List.append_assoc]
 rw[eb];have h1:=jpt ha ((digs r.text.size++sb r.text)++(y++x)) 5 (Nat.le_refl _);have e1:k1 (fl (nums r)++((digs r.text.size++sb r.text)++(y++x)))=⟨(digs r.text.size++sb r.text)++(y++x),0⟩:=by
  unfold k1;rw[h1.1];simp[nums,fl]
 have e2:v1 (fl (nums r)++((digs r.text.size++sb r.text)++(y++x)))=nums r:=by
  unfold v1;rw[h1.2,show(nums r).take 5=nums r from rfl,nI_nat ha]
 generalize fl (nums r)++((digs r.text.size++sb r.text)++(y++x))=z at*;have h2:=jpr r.text ho.text (y++x);rw[←List.append_assoc]at h2;have e3:k2 z=⟨y++x,0⟩:=by unfold k2;rw[e1];exact h2.1
 have e4:t2 z=r.text:=by unfold t2;rw[e1,h2.2,txt_sb]
 have e5:(v1 z).getD 0 0=r.kind:=by rw[e2];rfl
 have key:s3 z=r.sp∧k3 z=⟨x,0⟩:=by
  unfold s3 k3;rw[e5,e3];by_cases hk:r.kind=3
  ·rw[if_pos hk]at hy
   rw[if_pos hk,if_pos hk,hy];have h3:=jpu hf (by rw[Spc.flds_length];omega) x;rw[Spc.flds_length,←List.append_assoc]at h3;rw[h3.1,h3.2];have hl:(listV ⟨digs 12++fl (Spc.flds r.sp)++x,0⟩).length=12:=by rw[←ja6,h3.2,Spc.flds_length]
   rw[if_pos hl,Spc.of_flds];exact⟨rfl,rfl⟩
  ·rw[if_neg hk]at hy
   rw[if_neg hk,if_neg hk,hy];exact⟨(ho.other hk).symm,rfl⟩
 refine⟨ext ?_ e4 key.1,key.2⟩;show[(v1 z).getD 0 0,(v1 z).getD 1 0,(v1 z).getD 2 0,(v1 z).getD 3 0,(v1 z).getD 4 0]=nums r;rw[e2];rfl
theorem dec_bytes{r:R}(h:right r=true):dec (bytes r)=r∧k3 (bytes r)=⟨[],0⟩:=by
 have:=dec_app h []
 rwa [List.append_nil]at this
theorem bytes_cut{r s:R}(hr:right r=true)(hs:right s=true){x:List Nat}(h:bytes r=bytes s++x):x=[]:=by
 have h1:=(dec_bytes hr).2;rw[h,(dec_app hs x).2]at h1;injection h1
def whole(l:List Nat):Prop:=right (dec l)=true∧bytes (dec l)=l
theorem whole_bytes{r:R}(h:right r=true):whole (bytes r):=by
 unfold whole;rw[(dec_bytes h).1];exact⟨h,rfl⟩
theorem whole_iff{l:List Nat}:whole l↔∃r,right r=true∧bytes r=l:=⟨fun h=>⟨_,h.1,h.2⟩,fun⟨_,h1,h2⟩=>h2▸whole_bytes h1⟩
noncomputable def rdV(l:List Nat):R:=by classical exact if whole l then dec l else none_
noncomputable def rdE(l:List Nat):Int:=by classical exact if whole l then 0 else 2
theorem rd_yes{l:List Nat}(h:whole l):rdV l=dec l∧rdE l=0:=by unfold rdV rdE;rw[if_pos h,if_pos h];exact⟨rfl,rfl⟩
theorem rd_no{l:List Nat}(h:¬whole l):rdV l=none_∧rdE l=2:=by unfold rdV rdE;rw[if_neg h,if_neg h];exact⟨rfl,rfl⟩
theorem rd_back{r:R}(h:right r=true):rdV (bytes r)=r∧rdE (bytes r)=0:=by
 have:=rd_yes (whole_bytes h);rw[(dec_bytes h).1]at this;exact this
theorem none_wrong:right none_=false:=by decide
theorem rd_only{l:List Nat}(h:rdE l=0):right (rdV l)=true∧bytes (rdV l)=l:=by
 by_cases hw:whole l
 ·rw[(rd_yes hw).1];exact hw
 ·rw[(rd_no hw).2]at h;omega
theorem rd_cut{r:R}(h:right r=true):rdE ((bytes r).take ((bytes r).length -1))=2:=by
 refine(rd_no fun hw=> ?_).2;obtain⟨s,hs,hb⟩:=whole_iff.1 hw;have e:bytes r=bytes s++(bytes r).drop ((bytes r).length -1):=by rw[hb,List.take_append_drop]
 have:=congrArg List.length (bytes_cut h hs e);rw[List.length_drop,List.length_nil]at this;have hp:0<(bytes r).length:=by
  unfold bytes;have:=digs_pos r.text.size;rw[List.length_append,List.length_append,List.length_append];omega
 omega
theorem fl_le{l:List Int}(h:∀n∈l,0≤n∧n≤1099511627776):(fl l).length≤9*l.length:=by
 have:=jiw (all_small h) l.length (Nat.le_refl _)
 rwa [List.take_length]at this
theorem bytes_len{r:R}(h:right r=true):(bytes r).length≤300:=by
 have ho:=ok_of h;have h1:=fl_le ho.nums;have h2:=fl_le ho.flds;have h3:(digs r.text.size).length≤9:=digs_nine (by have:=ho.text;omega);have h4:=jbk r.text;have h5:=ho.text;rw[show(nums r).length=5 from rfl]at h1;rw[Spc.flds_length]at h2;unfold bytes;rw[List.length_append,List.length_append,List.length_append];split
 ·rw[List.length_append,show(digs 12).length=1 from by rw[digs_lt (by omega)];rfl]
  omega
 ·simp;omega
theorem bytes_pos(r:R):0<(bytes r).length:=by
 unfold bytes;have:=digs_pos r.text.size;rw[List.length_append,List.length_append,List.length_append];omega
theorem fl_byte{l:List Int}:∀x∈fl l,x<256:=by
 intro x hx;unfold fl at hx;obtain⟨n,_,hn⟩:=List.mem_flatMap.1 hx;exact digs_byte _ x hn
theorem bytes_byte(r:R):∀x∈bytes r,x<256:=by
 intro x hx;unfold bytes at hx;rcases List.mem_append.1 hx with hx|hx
 ·exact fl_byte x hx
 rcases List.mem_append.1 hx with hx|hx
 ·rcases List.mem_append.1 hx with hx|hx
  ·exact digs_byte _ x hx
  ·exact jhb _ x hx
 ·split at hx
  ·rcases List.mem_append.1 hx with hx|hx
   ·exact digs_byte _ x hx
   ·exact fl_byte x hx
  ·cases hx
end Rc
theorem Rc.rd_in(l:List Nat):Rc.In (Rc.rdV l):=by
 by_cases h:Rc.whole l
 ·have h2:Rc.right (Rc.rdV l)=true:=by rw[(Rc.rd_yes h).1];exact h.1
  exact Rc.ok_in (Rc.ok_of h2)
 ·rw[(Rc.rd_no h).1];exact Rc.none_in
end Go.Proofs.YtabandbigckfkaaGreatDoor
namespace Go.Proofs.YtabandbigckfkaaGreatDoor
open Go.RowKit
namespace So
open Bk Fr
def pre(s:St):List Rc.R→List Rc.R
 |[]=>[]
 |r::l=>if chk s r=0 then r::pre (app s r) l else[]
theorem pre_cnt(l:List Rc.R):∀s,cnt s (pre s l)=(pre s l).length:=by
 induction l with
 |nil=>intro s;rfl
 |cons r l ih=>
  intro s;unfold pre;by_cases h:chk s r=0
  ·rw[if_pos h]
   show(if chk s r=0 then 1 else 0)+cnt (app s r) (pre (app s r) l)=(pre (app s r) l).length+1;rw[if_pos h,ih];omega
  ·rw[if_neg h];rfl
theorem pre_is{l:List Rc.R}:∀{s:St} {j:Nat},j≤l.length→cnt s (l.take j)=j→(∀h:j<l.length,chk (run s (l.take j)) l[j]≠0)→pre s l=l.take j:=by
 induction l with
 |nil=>intro s j _ _ _;simp[pre]
 |cons r l ih=>
  intro s j hj hc hn
  cases j with
  |zero=>
   have this:chk s r≠0:=hn (by simp);unfold pre;rw[if_neg this];rfl
  |succ j=>
   have hc':(if chk s r=0 then 1 else 0)+cnt (app s r) (l.take j)=j+1:=hc;have hle:=cnt_le (app s r) (l.take j);rw[List.length_take]at hle;by_cases h:chk s r=0
   ·rw[if_pos h]at hc'
    unfold pre;rw[if_pos h];have hj':j≤l.length:=by simpa using hj
    rw[ih hj' (by omega) (fun hlt=>hn (by simpa using hlt))];rfl
   ·rw[if_neg h]at hc';omega
theorem pre_all{s:St}{l:List Rc.R}(h:cnt s l=l.length):pre s l=l:=by
 have:=pre_is (l:=l) (s:=s) (Nat.le_refl _) (by rw[List.take_length];exact h) (fun hx=>absurd hx (Nat.lt_irrefl _))
 rwa [List.take_length]at this
def Took(m:Int)(l:List Rc.R):Prop:=cnt (new m) l=l.length
theorem took_right{l:List Rc.R}:∀{s:St},cnt s l=l.length→∀r∈l,Rc.right r=true:=by
 induction l with
 |nil=>intro s _ r h;cases h
 |cons x l ih=>
  intro s hc r hr;have hc':(if chk s x=0 then 1 else 0)+cnt (app s x) l=l.length+1:=hc;have:=cnt_le (app s x) l;by_cases h:chk s x=0
  ·rw[if_pos h]at hc'
   have hc2:cnt (app s x) l=l.length:=by omega
   rcases List.mem_cons.1 hr with e|hr
   ·rw[e];exact chk_right h
   ·exact ih hc2 r hr
  ·rw[if_neg h]at hc';omega
theorem took_snoc{m:Int}{l:List Rc.R}(h:Took m l){r:Rc.R}(hc:chk (all m l) r=0):Took m (l++[r]):=by
 unfold Took at*;have hc2:chk (run (new m) l) r=0:=hc;rw[cnt_snoc,h,if_pos hc2,List.length_append];rfl
def ens(l:List Rc.R):List (List Nat):=l.map Rc.bytes
theorem ens_snoc(l:List Rc.R)(r:Rc.R):ens (l++[r])=ens l++[Rc.bytes r]:=by simp[ens]
theorem ens_len(l:List Rc.R):(ens l).length=l.length:=List.length_map ..
theorem rc_ok{r:Rc.R}(h:Rc.right r=true):ok (Rc.bytes r):=⟨Rc.bytes_pos r,Nat.le_trans (Rc.bytes_len h) (by omega),Rc.bytes_byte r⟩
theorem ens_ok{l:List Rc.R}(h:∀r∈l,Rc.right r=true):∀p∈ens l,ok p:=by
 intro p hp;obtain⟨r,hr,rfl⟩:=List.mem_map.1 hp;exact rc_ok (h r hr)
noncomputable def recs(ps:List (List Nat)):List Rc.R:=ps.map Rc.rdV
theorem recs_ens{l:List Rc.R}(h:∀r∈l,Rc.right r=true):recs (ens l)=l:=by
 unfold recs ens;rw[List.map_map];exact(List.map_congr_left fun r hr=>(Rc.rd_back (h r hr)).1).trans (List.map_id l)
theorem rd_right{p:List Nat}(h:Rc.right (Rc.rdV p)=true):Rc.rdE p=0∧Rc.bytes (Rc.rdV p)=p:=by
 by_cases hw:Rc.whole p
 ·exact⟨(Rc.rd_yes hw).2,(Rc.rd_only (Rc.rd_yes hw).2).2⟩
 ·rw[(Rc.rd_no hw).1,Rc.none_wrong]at h;cases h
theorem ens_take{ps:List (List Nat)}{s:St}{j:Nat}(h:cnt s ((recs ps).take j)=j)(hj:j≤ps.length):ens ((recs ps).take j)=ps.take j:=by
 have hl:((recs ps).take j).length=j:=by rw[List.length_take,recs,List.length_map];omega
 have hr:=took_right (s:=s) (l:=(recs ps).take j) (h.trans hl.symm);unfold ens recs at*;rw[←List.map_take,List.map_map]at*;refine(List.map_congr_left fun p hp=> ?_).trans (List.map_id _);exact(rd_right (hr _ (List.mem_map.2 ⟨p,hp,rfl⟩))).2
def disk(R:Nat)(l:List Rc.R):Dk.St:=Jn.Js R l.length (ens l)
def Fits(R:Nat)(l:List Rc.R)(r:Rc.R):Prop:=(Fr.all (ens l)).length+((Rc.bytes r).length+6)≤R
instance (R:Nat) (l:List Rc.R) (r:Rc.R):Decidable (Fits R l r):=inferInstanceAs (Decidable (_≤_))
theorem disk_app{R:Nat}{l:List Rc.R}{r:Rc.R}(hr:Rc.right r=true)(h:Fits R l r):Dk.sync (Jn.app (disk R l) (Rc.bytes r))=disk R (l++[r])∧Jn.appE (disk R l) (Rc.bytes r)=0:=by
 have:=Jn.js_app (R:=R) (k:=l.length) (ps:=ens l) (by rw[ens_len];exact Nat.le_refl _) (rc_ok hr) h;unfold disk;rw[this.1,Jn.js_sync,ens_snoc,List.length_append,List.length_append,ens_len];exact⟨rfl,this.2⟩
theorem disk_full{R:Nat}{l:List Rc.R}{r:Rc.R}(hr:Rc.right r=true)(h:¬Fits R l r):Jn.app (disk R l) (Rc.bytes r)=disk R l∧Jn.appE (disk R l) (Rc.bytes r)=4:=by
 have hg:¬Dk.goes (Jn.Js R l.length (ens l)) (fr (Rc.bytes r)):=by unfold Dk.goes Jn.Js;rw[fr_length];exact h
 unfold disk Jn.app Jn.appE;rw[if_neg (by rw[Jn.putE_ok (rc_ok hr)];decide),if_neg (by rw[Jn.putE_ok (rc_ok hr)];decide)];unfold Dk.write Dk.writeE;rw[if_neg hg,if_neg hg];exact⟨rfl,rfl⟩
def Kept(r:Rc.R)(keep:Int):Prop:=(((Rc.bytes r).length+6:Nat):Int)≤keep
instance (r:Rc.R) (keep:Int):Decidable (Kept r keep):=inferInstanceAs (Decidable (_≤_))
theorem disk_torn{R:Nat}{l:List Rc.R}{r:Rc.R}(hl:∀r∈l,Rc.right r=true)(hr:Rc.right r=true)(h:Fits R l r)(keep:Int):
  Jn.torn (disk R l) (Rc.bytes r) keep=(if Kept r keep then disk R (l++[r])else disk R l)∧Jn.tornE (disk R l) (Rc.bytes r)=13:=by
 have:=Jn.js_torn (R:=R) (k:=l.length) (ps:=ens l) (ens_ok hl) (by rw[ens_len];exact Nat.le_refl _) (rc_ok hr) h keep;unfold disk;rw[this.1,ens_snoc,List.length_append,ens_len];exact⟨rfl,this.2⟩
theorem disk_torn_full{R:Nat}{l:List Rc.R}{r:Rc.R}(hr:Rc.right r=true)(h:¬Fits R l r)(keep:Int):Jn.torn (disk R l) (Rc.bytes r) keep=disk R l∧Jn.tornE (disk R l) (Rc.bytes r)=4:=by
 have:=disk_full hr h;unfold Jn.torn Jn.tornE;rw[if_pos (by rw[this.2];decide),if_pos (by rw[this.2];decide)];exact⟨rfl,this.2⟩
end So
open Go.Deep Go.Maps
theorem js7{T:Type}(l:List T)(o:Nat)(v:T)(h:o<l.length):(l.set o v).take (o+1)=l.take o++[v]:=by
 rw[List.take_succ_eq_append_getElem (by rw[List.length_set];exact h),List.getElem_set_self,List.take_set_of_le (Nat.le_refl _)]
theorem jce(g:Nat)(t:TypeId):∀(vs:List Value) (o:Nat) (w:World) (l:List Value),w.heap[g]? =some (.cells l.toArray t (0,0))→o+vs.length≤l.length→
  (w.setCells g o vs).heap[g]? =some (.cells (l.take o++vs++l.drop (o+vs.length)).toArray t (0,0))
 |[],o,w,l,h,ho=>by
  show w.heap[g]? =_;rw[h,List.append_nil,List.length_nil,Nat.add_zero,List.take_append_drop]
 |v::vs,o,w,l,h,ho=>by
  rw[List.length_cons]at ho;have h1:=heap_setCell_same w g o _ t v h;rw[List.setIfInBounds_toArray]at h1;have h2:=jce g t vs (o+1) (w.setCell ⟨g,o,none⟩ v) (l.set o v) h1 (by rw[List.length_set];omega);rw[js7 l o v (by omega),List.drop_set_of_lt (by omega)]at h2;have e:l.take o++[v]++vs++l.drop (o+1+vs.length)=l.take o++v::vs++l.drop (o+(v::vs).length):=by
   rw[List.length_cons,show o+1+vs.length=o+(vs.length+1)from by omega];simp
  rw[e]at h2;exact h2
namespace Ss
def cs(m R:Int)(A B:ByteArray)(l:Value)(b:Array Value):List Value:=[Value.int .i64 m,.int .i64 R,.string A,.string B,l]++b.toList
end Ss
structure SsAt(w:World)(g:Nat)(m R:Int)(A B:ByteArray)(l:Value)(s:Bk.St)(L V H:Value):Prop where
 row:w.heap[g]? =some (.cells (Ss.cs m R A B l (Bk.cells s L V H)).toArray 42 (0,0))
theorem jej:Tryz.prog.underlying 42=some (.struct (Tryz.prog.fieldsOf 42)):=by kernel_rfl
theorem jdy(m R:Int)(A B:ByteArray)(l:Value)(s:Bk.St)(L V H:Value):(Tryz.prog.info? 42).map (·.size)=some (Ss.cs m R A B l (Bk.cells s L V H)).toArray.size:=by kernel_rfl
def Ss.zeros:Array Value:=(Ss.cs 0 0 ⟨#[]⟩ ⟨#[]⟩ (.slice none 0 0) Bk.zeros).toArray
theorem jhs:∀w,(zeroValue 42).run Tryz.prog w= .ok (.agg Ss.zeros) w:=(zero_of_info (n:=79) (by kernel_rfl)).1
theorem js8(s:Bk.St)(L V H:Value):(Tryz.prog.info? 40).map (·.size)=some (Bk.cells s L V H).toList.length:=by rw[Array.length_toList];exact jep s L V H
section
variable{w w':World}{g:Nat}{m R:Int}{A B:ByteArray}{l:Value}{s:Bk.St}{L V H:Value}
theorem Ss.len:(Ss.cs m R A B l (Bk.cells s L V H)).length=79:=rfl
theorem SsAt.lt(h:SsAt w g m R A B l s L V H):g<w.heap.size:=(Array.getElem?_eq_some_iff.1 h.row).1
theorem SsAt.keep(h:SsAt w g m R A B l s L V H)(hk:w'.heap[g]? =w.heap[g]?):SsAt w' g m R A B l s L V H:=⟨hk.trans h.row⟩
theorem SsAt.on(h:SsAt w g m R A B l s L V H)(hb:Below w.heap.size w w'):SsAt w' g m R A B l s L V H:=h.keep (hb.block g h.lt)
theorem SsAt.cell(h:SsAt w g m R A B l s L V H)(k:Nat):w.cell? ⟨g,k,none⟩=(Ss.cs m R A B l (Bk.cells s L V H))[k]? :=by rw[cell_of_row w g k _ _ _ h.row,List.getElem?_toArray]
theorem SsAt.c1(h:SsAt w g m R A B l s L V H):w.cell? ⟨g,1,none⟩=some (.int .i64 R):=h.cell 1
theorem SsAt.c2(h:SsAt w g m R A B l s L V H):w.cell? ⟨g,2,none⟩=some (.string A):=h.cell 2
theorem SsAt.c3(h:SsAt w g m R A B l s L V H):w.cell? ⟨g,3,none⟩=some (.string B):=h.cell 3
theorem SsAt.c4(h:SsAt w g m R A B l s L V H):w.cell? ⟨g,4,none⟩=some l:=h.cell 4
theorem SsAt.frz(h:SsAt w g m R A B l s L V H)(i:Nat):w.frozen? ⟨g,i,none⟩=false:=frozen_of_row w g i _ _ h.row
theorem SsAt.book(h:SsAt w g m R A B l s L V H):w.rangeAt g 5 (Bk.cells s L V H).toList:=fun j v hv=>by
 rw[h.cell];unfold Ss.cs;rw[List.getElem?_append_right (by simp)];simpa using hv
theorem SsAt.there(h:SsAt w g m R A B l s L V H){o n:Nat}(ho:o+n≤79):w.there g o n:=fun j hj=>by
 refine⟨?_,h.frz _⟩;rw[h.cell,List.getElem?_eq_getElem (by rw[Ss.len];omega)];rfl
theorem SsAt.new(w:World)(m R:Int)(A B:ByteArray)(l:Value)(s:Bk.St)(L V H:Value):SsAt (w.alloc (.cells (Ss.cs m R A B l (Bk.cells s L V H)).toArray 42)) w.heap.size m R A B l s L V H:=⟨heap_alloc_new w _⟩
theorem SsAt.setBook(h:SsAt w g m R A B l s L V H)(s2:Bk.St)(L2 V2 H2:Value):SsAt (w.setCells g 5 (Bk.cells s2 L2 V2 H2).toList) g m R A B l s2 L2 V2 H2:=⟨jce g _ _ 5 w _ h.row (by rw[Ss.len];exact Nat.le_refl 79)⟩
theorem SsAt.setDisk(h:SsAt w g m R A B l s L V H)(R2:Int)(A2 B2:ByteArray):SsAt (w.setCells g 1 [.int .i64 R2,.string A2,.string B2]) g m R2 A2 B2 l s L V H:=⟨jce g _ _ 1 w _ h.row (by rw[Ss.len];show 1+3≤79;omega)⟩
theorem SsAt.setRows(h:SsAt w g m R A B l s L V H)(l2:Value):SsAt (w.setCells g 4 [l2]) g m R A B l2 s L V H:=⟨jce g _ _ 4 w _ h.row (by rw[Ss.len];show 4+1≤79;omega)⟩
theorem Ss.one(hl:l.oneCell'=true)(hb:(Bk.cells s L V H).all (·.oneCell')=true):(Ss.cs m R A B l (Bk.cells s L V H)).toArray.all (·.oneCell')=true:=by
 rw[Array.all_eq_true_iff_forall_mem]at hb⊢;intro v hv;unfold Ss.cs at hv;rw[List.mem_toArray,List.mem_append]at hv;rcases hv with hv|hv
 ·simp only[List.mem_cons,List.not_mem_nil,or_false]at hv
  rcases hv with rfl|rfl|rfl|rfl|rfl
  ·rfl
  ·rfl
  ·rfl
  ·rfl
  ·exact hl
 ·exact hb v (by simpa using hv)
variable{ops:Array Oper}{rest:List Oper}{op:Oper}{a:Act}{Q:Exit→Act→World→Prop}
theorem jcl(hgd:op.guard=none)(x:Operand)(ho:op.op= .load 42 x)(hx:a.eval x= .pointer (some ⟨g,0,none⟩))(hg:SsAt w g m R A B l s L V H)
  (h:wpList Tryz.prog ops Q rest (a.put op.dst (.agg (Ss.cs m R A B l (Bk.cells s L V H)).toArray)) w):wpList Tryz.prog ops Q (op::rest) a w:=
 wpList_load_row hgd 42 x ho g hx 42 _ (0,0) _ hg.row jej rfl (jdy ..) h
theorem jf9(hgd:op.guard=none)(x:Operand)(ho:op.op= .load 40 x)(hx:a.eval x= .pointer (some ⟨g,5,none⟩))(hg:SsAt w g m R A B l s L V H)
  (h:wpList Tryz.prog ops Q rest (a.put op.dst (.agg (Bk.cells s L V H))) w):wpList Tryz.prog ops Q (op::rest) a w:=
 wpList_load_mid hgd 40 x ho g 5 hx (Bk.cells s L V H).toList _ hg.book jd8 rfl (js8 s L V H) h
theorem je9{s2:Bk.St}{L2 V2 H2:Value}(hgd:op.guard=none)(x y:Operand)(ho:op.op= .store 40 x y)(hx:a.eval x= .pointer (some ⟨g,5,none⟩))(hy:a.eval y= .agg (Bk.cells s2 L2 V2 H2))(hg:SsAt w g m R A B l s L V H)(h1:(Bk.cells s2 L2 V2 H2).all (·.oneCell')=true)
  (h:wpList Tryz.prog ops Q rest (a.put op.dst undef) (w.setCells g 5 (Bk.cells s2 L2 V2 H2).toList)):wpList Tryz.prog ops Q (op::rest) a w:=
 wpList_store_mid hgd 40 x y ho g 5 _ hx hy (hg.there (by show 5+74≤79;omega)) (jep ..) h1 h
theorem jbc{cs0:Array Value}(hgd:op.guard=none)(x y:Operand)(ho:op.op= .store 42 x y)(hx:a.eval x= .pointer (some ⟨g,0,none⟩))(hy:a.eval y= .agg (Ss.cs m R A B l (Bk.cells s L V H)).toArray)(hg:w.heap[g]? =some (.cells cs0 42 (0,0)))(hz:cs0.size=79)(h1:(Ss.cs m R A B l (Bk.cells s L V H)).toArray.all (·.oneCell')=true)
  (h:wpList Tryz.prog ops Q rest (a.put op.dst undef) (w.setRow g (Ss.cs m R A B l (Bk.cells s L V H)).toArray)):wpList Tryz.prog ops Q (op::rest) a w:=
 wpList_plain hgd fun _ hK=>wp_store_row 42 x y ho g _ hx hy 42 _ hg (jdy ..) (by rw[hz];rfl) h1 (hK _ _ h)
theorem jga{fn:Func}{p u:Tmp}(h:fn.results= #[.cell p 42,.tmp u])(tmps:Array Value)(hp:tmps.getD p undef= .pointer (some ⟨g,0,none⟩))(hg:SsAt w g m R A B l s L V H):
  (results fn tmps).run Tryz.prog w= .ok (.tuple #[.agg (Ss.cs m R A B l (Bk.cells s L V H)).toArray,tmps.getD u undef]) w:=by
 rw[results_cell_tmp h,hp];have:=run_loadVar_row (P:=Tryz.prog) w g 42 42 _ (0,0) _ hg.row jej rfl (jdy ..);simp[asAddr,this,Result.andThen]
end
structure DdAt(w:World)(g:Nat)(d:Dk.St):Prop where
 row:w.heap[g]? =some (.cells #[.int .i64 (d.room:Nat),.string (tA d),.string (tB d)] 27 (0,0))
theorem jix:Tryz.prog.underlying 27=some (.struct (Tryz.prog.fieldsOf 27)):=by kernel_rfl
theorem jew(x y z:Value):(Tryz.prog.info? 27).map (·.size)=some (#[x,y,z]:Array Value).size:=by kernel_rfl
section
variable{w w':World}{g:Nat}{d:Dk.St}
theorem DdAt.new(w:World)(d:Dk.St):DdAt (w.alloc (.cells #[.int .i64 (d.room:Nat),.string (tA d),.string (tB d)] 27)) w.heap.size d:=⟨heap_alloc_new w _⟩
theorem DdAt.lt(h:DdAt w g d):g<w.heap.size:=(Array.getElem?_eq_some_iff.1 h.row).1
theorem DdAt.on(h:DdAt w g d)(hb:Below w.heap.size w w'):DdAt w' g d:=⟨(hb.block g h.lt).trans h.row⟩
variable{ops:Array Oper}{rest:List Oper}{op:Oper}{a:Act}{Q:Exit→Act→World→Prop}
theorem jbv(hgd:op.guard=none)(x:Operand)(ho:op.op= .load 27 x)(hx:a.eval x= .pointer (some ⟨g,0,none⟩))(hg:DdAt w g d)
  (h:wpList Tryz.prog ops Q rest (a.put op.dst (.agg #[.int .i64 (d.room:Nat),.string (tA d),.string (tB d)])) w):wpList Tryz.prog ops Q (op::rest) a w:=
 wpList_load_row hgd 27 x ho g hx 27 _ (0,0) _ hg.row jix rfl (jew ..) h
theorem jpv{oi:Oper}(x:Operand)(ho:oi.op= .load 27 x)(g:Nat)(d:Dk.St)(hx:a.eval x= .pointer (some ⟨g,0,none⟩)){W:World}(h:DdAt W g d):(execOp a.eval oi).run Tryz.prog W= .ok (.value (.agg #[.int .i64 (d.room:Nat),.string (tA d),.string (tB d)])) W:=by
 unfold execOp;simp only[ho,hx,Instr.loadAt,Instr.sureAddr,Sem.run_bind,Sem.run_pure,Result.andThen_ok,run_loadVar_row (P:=Tryz.prog) W g 27 27 _ (0,0) _ h.row jix rfl (jew ..)]
theorem jb9(hgd:op.guard=none)(x y:Operand)(ho:op.op= .store 27 x y)(hx:a.eval x= .pointer (some ⟨w.heap.size,0,none⟩))(hy:a.eval y= .agg #[.int .i64 (d.room:Nat),.string (tA d),.string (tB d)])
  (h:wpList Tryz.prog ops Q rest (a.put op.dst undef) (w.alloc (.cells #[.int .i64 (d.room:Nat),.string (tA d),.string (tB d)] 27))):wpList Tryz.prog ops Q (op::rest) a (w.alloc (.cells #[.int .i64 0,.string ⟨#[]⟩,.string ⟨#[]⟩] 27)):=
 wpList_plain hgd fun _ hK=>wp_store_row 27 x y ho w.heap.size #[.int .i64 (d.room:Nat),.string (tA d),.string (tB d)] hx hy 27 _ (heap_alloc_new w _) (jew ..) rfl (by simp[Value.oneCell']) (hK _ _ (by rw[World.setRow_alloc_new];exact h))
theorem jfa{m R:Int}{A B:ByteArray}{l:Value}{s:Bk.St}{L V H:Value}(hgd:op.guard=none)(x y:Operand)(ho:op.op= .store 27 x y)(hx:a.eval x= .pointer (some ⟨g,1,none⟩))(hy:a.eval y= .agg #[.int .i64 (d.room:Nat),.string (tA d),.string (tB d)])(hg:SsAt w g m R A B l s L V H)
  (h:wpList Tryz.prog ops Q rest (a.put op.dst undef) (w.setCells g 1 [.int .i64 (d.room:Nat),.string (tA d),.string (tB d)])):wpList Tryz.prog ops Q (op::rest) a w:=
 wpList_store_mid hgd 27 x y ho g 1 _ hx hy (hg.there (by show 1+3≤79;omega)) (jew ..) (by simp[Value.oneCell']) h
end
end Go.Proofs.YtabandbigckfkaaGreatDoor
namespace Go.Proofs.YtabandbigckfkaaGreatDoor
open Go.RowKit
theorem Kept.putObj(W:World)(r:Nat)(o:Obj):Kept (fun i=>i=r) W (W.putObj r o):=
 ⟨rfl,rfl,rfl,by rw[World.putObj_size];exact Nat.le_refl _,fun _ _ hi=>World.putObj_heap_other hi⟩
theorem OwnB.kept{F:Nat→Prop}{w w':World}{B:Nat}{v:Value}{l:List Nat}(h:OwnB w B v l)(hk:Kept F w w')(hF:∀i,B≤i→i<w.heap.size→¬F i):OwnB w' B v l:=by
 refine⟨⟨h.1.1,?_⟩,h.2⟩;rcases h.1.2 with h2|⟨g,cap,cur,hv,hg,hh,r⟩
 ·exact .inl h2
 ·have hlt:=(Array.getElem?_eq_some_iff.1 hh).1
  exact .inr ⟨g,cap,cur,hv,hg,(hk.block g hlt (hF g hg hlt)).trans hh,r⟩
def jpw(P:Program)(g:Nat)(lb:Array Value)(Kp:World→World→Prop)(ps:List (List Nat))(w:World):Prop:=
 ∀(l:Nat) (J:Nat→World→Prop) (W:World),Below w.heap.size w W→(∀k A B,J k A→Below A.heap.size A B→J k B)→
  (∀k A c p W0 W1,ps[k]? =some p→J k W0→Below W0.heap.size W0 W1→OwnB W1 W0.heap.size (.slice A p.length c) p→
   YieldAt Fence.wide 1 P l #[.slice A p.length c] W1 fun e W'=>e= .returned (.bool true)∧J (k+1) W'∧Kp W1 W')→
  J 0 W→
  CallsIn Fence.wide 2 P g (#[.func (.yield l) #[] #[]]++lb) W fun e W'=>(∃v,e= .returned v)∧J ps.length W'
theorem jc0{P:Program}{g:Operand}{ps:Array Tmp}{assign body:Code}{Q:Exit→Act→World→Prop}{a:Act}{w:World}
  {gf:Nat} {lb:Array Value} (hg:a.eval g= .func (.func gf) #[] lb) (eg:∀args w,(callFunc gf args).run P w= .ok (.enter gf args) w)
  {Y:Nat→Prop} {rows:List (List Nat)} (hseq:jpw P gf lb (Kept (fun i=>Y i∨i=w.heap.size+1)) rows w) (hps:ps.size=1)
  (hY0:¬Y w.heap.size) (hY1:¬Y (w.heap.size+1))
  (I:Nat→World→Prop) (hI:∀k A B,I k A→w.heap.size+2≤A.heap.size→Kept (fun i=>i=w.heap.size∨i=w.heap.size+1) A B→I k B)
  (h0:∀W1,Below w.heap.size w W1→W1.heap.size=w.heap.size+2→I 0 W1) (a₁:Value→Act)
  (hassign:∀(l:Nat) (x:Value) (W:World) (K:Act→World→Prop),K (a₁ x) W→
   assign.wpIn (Fence.wide.inRound l) 1 P (Exit.then K (fun _ _ _=>False)) {tmps:=(ps.zip #[x]).foldl (fun t (p,v)=>t.setIfInBounds p v) a.tmps,defers:=[]} W)
  (hbody:∀(l k:Nat) (A:Option Addr) (c:Nat) (p:List Nat) (W0 W:World),rows[k]? =some p→I k W0→w.heap.size+2≤W0.heap.size→Kept (fun i=>i=w.heap.size+1) W0 W→OwnB W W0.heap.size (.slice A p.length c) p→
   body.wpIn (Fence.wide.inRound l) 1 P (fun e _ W'=>e= .normal∧Kept Y W W'∧I (k+1) W') (a₁ (.slice A p.length c)) W)
  (hdone:∀W,I rows.length W→w.heap.size+2≤W.heap.size→W.heap[w.heap.size]? =some (.deferred (some []))→Q .normal {a with defers:={target:= .collected w.heap.size,args:=#[]}::a.defers} W):
  (Code.rangeFunc g ps assign body).wpIn Fence.wide 3 P Q a w:=by
 refine wpIn_rangeFunc ?_;intro fn hfn;rw[show Fence.wide.round=none from rfl];obtain⟨rec,hrec⟩:∃rec:LoopState→Option Code→Loop,rec=fun st pe=>{state:=st,pending:=pe,fn,tmps:=a.tmps,params:=ps,assign,body,defers:=w.heap.size}:=⟨_,rfl⟩;obtain⟨W1,hW1⟩:∃W1,(w.alloc (.deferred (some []))).alloc (.loop (rec .ready none))=W1:=⟨_,rfl⟩;have hs1:W1.heap.size=w.heap.size+2:=by rw[←hW1];simp
 have hb1:Below w.heap.size w W1:=by rw[←hW1];exact((Below.refl _ w).alloc (Nat.le_refl _) _).alloc (by simp) _
 have hL1:W1.heap[w.heap.size+1]? =some (.loop (rec .ready none)):=by
  rw[←hW1];have:=World.alloc_heap_new (w.alloc (.deferred (some []))) (.loop (rec .ready none));rwa [World.size_alloc]at this
 have hK1:W1.heap[w.heap.size]? =some (.deferred (some [])):=by
  rw[←hW1];exact(Below.heap_alloc _ _ _ (by simp)).trans (World.alloc_heap_new w _)
 refine⟨w.heap.size+1,[{target:= .collected w.heap.size,args:=#[]}],W1,{target:= .fn (.func gf) lb,args:=#[.func (.yield (w.heap.size+1)) #[] #[]]},W1,gf,
  #[.func (.yield (w.heap.size+1)) #[] #[]]++lb,W1,?_,?_,fun _ _=>trivial,?_,fun _=>by omega,?_⟩
 ·rw[←hW1,hrec];exact run_enterLoop_outer _ _ _ _ _
 ·simp only[resolve,hg]
  simp[go_sem]
 ·simp[invoke,go_sem,eg]
 ·refine(hseq (w.heap.size+1)
   (fun k W=>I k W∧w.heap.size+2≤W.heap.size∧W.heap[w.heap.size+1]? =some (.loop (rec .ready none))∧W.heap[w.heap.size]? =some (.deferred (some [])))
   W1 hb1
   (fun k A B hs hb=>⟨hI k A B hs.1 hs.2.1 (Kept.of_below hb),Nat.le_trans hs.2.1 hb.size,(hb.block _ (by have:=hs.2.1;omega)).trans hs.2.2.1,(hb.block _ (by have:=hs.2.1;omega)).trans hs.2.2.2⟩)
   ?_ ⟨h0 W1 hb1 hs1,by omega,hL1,hK1⟩).mono ?_
  ·rintro k A c p W0 W hp ⟨hi0,hsz,hl0,hk0⟩ hb ho
   have hszW:=hb.size;have hl:W.heap[w.heap.size+1]? =some (.loop (rec .ready none)):=(hb.block _ (by omega)).trans hl0;have hk:W.heap[w.heap.size]? =some (.deferred (some [])):=(hb.block _ (by omega)).trans hk0;have hy:=run_yield (P:=P) (args:=#[.slice A p.length c]) hl (by rw[hrec];exact hps.symm);rw[hrec]at hy;obtain⟨Wb,hWb⟩:∃Wb,W.putObj (w.heap.size+1) (.loop {rec .ready none with state:= .busy})=Wb:=⟨_,rfl⟩
   have kb:Kept (fun i=>i=w.heap.size+1) W Wb:=by rw[←hWb];exact Kept.putObj _ _ _
   have hszb:=kb.size;refine⟨fn,_,assign,body,hy,roundIn_of_wpIn hfn (hassign _ _ W _ ⟨Wb,by rw[←hWb];exact run_beginRound hl (by rw[hrec]),?_⟩)⟩;have hl2:Wb.heap[w.heap.size+1]? =some (.loop {rec .ready none with state:= .busy}):=by rw[←hWb];exact World.putObj_heap_same (by omega)
   have hk2:Wb.heap[w.heap.size]? =some (.deferred (some [])):=(kb.block _ (by omega) (by omega)).trans hk;have k0b:Kept (fun i=>i=w.heap.size+1) W0 Wb:=(Kept.of_below (F:=fun i=>i=w.heap.size+1) hb).trans kb fun _ _ h=>h;refine wpIn_mono (hbody _ k A c p W0 Wb hp hi0 hsz k0b (ho.kept kb fun i h1 _ h2=>by omega)) ?_;rintro e a3 W3 ⟨rfl,k3,hi3⟩;have hsz3:=k3.size;have hl3:=(k3.block _ (by omega) hY1).trans hl2;have hk3:=(k3.block _ (by omega) hY0).trans hk2;have hr:(Instr.endRound (w.heap.size+1) none).run P W3= .ok (.bool true) (W3.putObj (w.heap.size+1) (.loop (rec .ready none))):=by
    have:=run_endRound (P:=P) none hl3;rw[hrec]at this⊢;exact this
   have k4:=Kept.putObj W3 (w.heap.size+1) (.loop (rec .ready none));refine⟨_,_,hr,?_⟩;refine⟨rfl,⟨hI _ _ _ hi3 (by omega) (k4.more fun _ _ h=> .inr h),by rw[World.putObj_size];omega,World.putObj_heap_same (by omega),(World.putObj_heap_other (by omega)).trans hk3⟩,?_⟩;exact(((kb.more fun _ _ h=> .inr h).trans k3 fun _ _ h=> .inl h).trans k4 fun _ _ h=> .inr h)
  ·rintro e W2 ⟨⟨v,rfl⟩,hi,hsz,hl,hk⟩
   refine⟨none,_,by have:=run_endLoop (P:=P) hl (by rw[hrec];simp);rw[hrec]at this;exact this,?_⟩;have k4:=Kept.putObj W2 (w.heap.size+1) (.loop {rec .ready none with state:= .exhausted})
   rw[hrec]at k4;exact hdone _ (hI _ _ _ hi hsz (k4.more fun _ _ h=> .inr h)) (by rw[World.putObj_size];exact hsz) ((World.putObj_heap_other (by omega)).trans hk)
end Go.Proofs.YtabandbigckfkaaGreatDoor
namespace Go.Proofs.YtabandbigckfkaaGreatDoor
open Go.RowKit Go.Shelf Fr
attribute [local go_sem] Oper.semAt_some
theorem jiy{W W':World}{a:Addr}(h:W'.heap[a.block]? =W.heap[a.block]?):W'.cell? a=W.cell? a:=by unfold World.cell?;rw[h]
theorem Sl.held{w w':World}{A:Option Addr}{n c:Nat}{l:List Nat}(h:Sl w A n c l)(hs:w.heap.size≤w'.heap.size)(hb:∀a,A=some a→w'.heap[a.block]? =w.heap[a.block]?):Sl w' A n c l:=
 ⟨⟨h.rd.1,fun hl=>by
  obtain⟨b,o,e,hbb,hc⟩:=h.rd.2 hl;exact⟨b,o,e,Nat.lt_of_lt_of_le hbb hs,fun j hj=>(jiy (a:=⟨b,o+j,none⟩) (hb ⟨b,o,none⟩ e)).trans (hc j hj)⟩⟩,h.len,h.cap,h.max,h.nil⟩
theorem Far.prefix{l:List Nat}{k:Nat}{ps:List (List Nat)}(h:Far l k ps)(he:gE (l.drop k)=0):(scan l).1[ps.length]? =some (gP (l.drop k)):=by
 have h2:=h.yes he;unfold Far at h2;rw[h2];simp
def lenOf:Value→Nat
 | .slice _ n _=>n
 |_=>0
theorem je6(n c:Nat)(A:Option Addr)(w:World):
  Calls Tryz.prog 119 #[.slice A n c] w fun e w'=>e= .returned (.func (.func 186) #[] #[.pointer (some ⟨w.heap.size,0,none⟩)])∧w'=w.alloc (.cells #[.slice A n c] 58):=by
 go_enter Tryz.func119,Tryz.ntmps119;go_wp2_with fail;go_ret;exact⟨rfl,rfl⟩
theorem jek(n c:Nat)(A:Option Addr)(l:List Nat)(w:World)(g:Nat)(h:Sl w A n c l)(hbox:w.heap[g]? =some (.cells #[.slice A n c] 58 (0,0)))(hn:n≤1000000000)(Z:Nat→Prop)(hZ:0<l.length→∀a,A=some a→¬Z a.block):
  jpw Tryz.prog 186 #[.pointer (some ⟨g,0,none⟩)] (Kept Z) (scan l).1 w:=by
 intro y J W hW hJ hY h0;have hc0:W.cell? ⟨g,0,none⟩=some (.slice A n c):=by
  rw[cell_of_row W g 0 _ _ _ ((hW.block g (Array.getElem?_eq_some_iff.1 hbox).1).trans hbox)];rfl
 have HS:=zh (h.on hW);have HJ:=zh hJ;have HY:=zh hY;have HK:=zh hZ;have HB:Hid (0<l.length→∀a,A=some a→a.block<W.heap.size):=fun hl a ha=>Nat.lt_of_lt_of_le (h.block hl a ha) hW.size;have H0:=zh h0;clear h hbox hW hJ hY hZ h0;refine callsIn_of_wp Tryz.func186 rfl trivial ?_ rfl;simp only[Tryz.ntmps186,List.size_toArray,List.length_cons,List.length_nil,Nat.reduceAdd,Nat.reduceSub,Array.replicate_succ,Array.replicate_zero,List.push_toArray,List.append_toArray,List.nil_append,List.cons_append]
 gi_wp2_with fail
 gi_loopw [3] (fun p wr=>∃(k:Nat) (ps:List (List Nat)) (A':Option Addr) (n' c':Nat),p= .slice A' n' c'∧Sl wr A' n' c' (l.drop k)∧(∀a',A'=some a'→∃a,A=some a∧a'.block=a.block)∧Far l k ps∧J ps.length wr∧n'≤n∧k≤l.length∧W.heap.size≤wr.heap.size)
  (fun p _=>lenOf p)
 case atStart=>
  exact⟨0,[],A,n,c,rfl,HS.out,fun a' e=>⟨a',e,rfl⟩,Far.start l,H0.out,Nat.le_refl _,Nat.zero_le _,Nat.le_refl _⟩
 case round=>
  obtain⟨k,ps,A',n',c',rfl,hs,hA,hf,hj,hn',hkl,hWs⟩:=hrel;have H:=zh hs;clear hs;have HA:=zh hA;clear hA;have F:=zh hf;clear hf;have JJ:=zh hj;clear hj;by_cases hz:n'=0
  ·subst hz
   have hk:k=l.length:=by have:=H.out.len;rw[List.length_drop]at this;omega
   have HE:=zh (F.out.stop hk);clear hk
   gi_wp2_with fail
   go_end0;exact⟨⟨_,rfl⟩,by rw[HE.out];exact JJ.out⟩
  ·have hnz:(0:Int)<(n':Int):=by omega
   have hkl':Hid (k<l.length):=by have:=H.out.len;rw[List.length_drop]at this;show _<_;omega
   have HP:Hid (gE (l.drop k)≠0→scan l=(ps,k,gE (l.drop k))):=fun he=>F.out.no hkl'.out he;have HX:Hid (gE (l.drop k)=0→Far l (k+whole (l.drop k)) (ps++[gP (l.drop k)])∧(scan l).1[ps.length]? =some (gP (l.drop k))∧gN (l.drop k)=whole (l.drop k)∧7≤whole (l.drop k)∧whole (l.drop k)≤n'∧k+whole (l.drop k)≤l.length):=fun he=>by
    have h1:=gE_zero he;have h2:=h1.2.2.1;have h3:=H.out.len;have h4:=h2;rw[List.length_drop]at h4;exact⟨F.out.yes he,F.out.prefix he,(jf5 he).2,h1.1,by omega,by omega⟩
   have HD:Hid (∀m,l.drop (k+m)=(l.drop k).drop m):=fun m=>by rw[List.drop_drop]
   have C:=zh (jll _ _ _ (l.drop k) wr H.out (by omega));generalize l.drop k=d at*
   gi_wp2_with fail
   refine⟨trivial,callsIn_wide.2 ?_⟩
   (with_reducible refine C.out.mono ?_)
   rintro e w2 ⟨A2,c2,rfl,ho2,hb2⟩;by_cases he:gE d=0
   ·obtain⟨hf2,hat,hN,h7,hle,hkw⟩:=HX.out he
    have F2:=zh hf2;obtain⟨fn,tmps,assign,body,hy,hR⟩:=HY.out ps.length A2 c2 (gP d) wr w2 hat JJ.out hb2 ho2;have R:=zh hR;have H2:=zh (H.out.on hb2);have hWs2:=hb2.size;rw[hN,he];clear hR hf2 hat hN ho2 hb2 HP HX C he;generalize gP d=p at*;generalize whole d=m at*
    gi_wp2_with fail
    refine R.out.mono ?_;rintro e W3 ⟨rfl,hj3,hk3⟩;have hz3:W.heap.size≤W3.heap.size:=Nat.le_trans (Nat.le_trans hWs hWs2) hk3.size;have H3:=zh (H2.out.held hk3.size (fun a' ha'=>by
     obtain⟨a,e1,e2⟩:=HA.out a' ha';have h0:0<l.length:=by have:=hkl'.out;omega
     rw[e2];exact hk3.block _ (by have:=HB.out h0 a e1;omega) (HK.out h0 a e1)))
    have J3:=zh hj3;have hcap:=H3.out.cap;have hmax:=H3.out.max;unfold maxLen at hmax;clear hj3 hk3 R hy;by_cases hcm:c'=m
    ·have S4:=zh (H3.out.dropAll hle hcm)
     obtain rfl:n'=m:=by omega
     gi_wp2_with fail
     go_roundw
     case rel=>exact⟨k+n',ps++[p],A',n' -n',c' -n',by rw[hcm];simp,by rw[HD.out];exact S4.out,HA.out,F2.out,by rw[List.length_append];exact J3.out,by omega,hkw,hz3⟩
     case measure=>simp[lenOf];omega
    ·have S4:=zh (H3.out.drop hle hcm)
     gi_wp2_with fail
     go_roundw
     case rel=>exact⟨k+m,ps++[p],_,_,_,rfl,by rw[HD.out];exact S4.out,fun a' ha'=>by
      obtain⟨x,hx,rfl⟩:=Option.map_eq_some_iff.1 ha';obtain⟨a,e1,e2⟩:=HA.out x hx;refine⟨a,e1,?_⟩;rw[←e2];unfold Addr.add;split<;>rfl,F2.out,by rw[List.length_append];exact J3.out,by omega,hkw,hz3⟩
     case measure=>simp[lenOf];omega
   ·have HS2:=zh (HP.out he)
    have hee:(((gE d:Nat):Int) !=0)=true:=by rw[bne_iff_ne];omega
    have J2:=zh (HJ.out _ _ _ JJ.out hb2);clear he HP HX C;generalize gE d=ee at*;generalize gN d=nn at*
    gi_wp2_with fail
    refine⟨fun _ h=>(by cases h),?_⟩
    gi_wp2_with fail
    refine bodyPost_ret (results_none rfl _ _ _) rfl ?_;exact⟨⟨_,rfl⟩,by rw[HS2.out];exact J2.out⟩
theorem jg4(n c:Nat)(A:Option Addr)(l:List Nat)(w:World)(h:Sl w A n c l)(hn:n≤1000000000):
  Calls Tryz.prog 112 #[.slice A n c] w (jdu w (.int .i64 (((scan l).1.length:Nat):Int))):=by
 refine(callsIn_wide (n:=3)).1 ?_;refine callsIn_of_wp_marks Tryz.func112 rfl trivial ?_ rfl;simp only[Tryz.ntmps112,List.size_toArray,List.length_cons,List.length_nil,Nat.reduceAdd,Nat.reduceSub,Array.replicate_succ,Array.replicate_zero,List.push_toArray,List.append_toArray,List.nil_append,List.cons_append];have hcount:(scan l).1.length≤1000000000:=Nat.le_trans (scan_count l) (by rw[←h.len];exact hn)
 gi_wp2_with fail
 refine⟨trivial,callsIn_wide.2 ?_⟩;refine(je6 n c A _).mono ?_;rintro e w1 ⟨rfl,rfl⟩
 gi_wp2_with fail
 have hb1:=(Below.refl w.heap.size w).alloc (Nat.le_refl _) (.cells #[.int .i64 0] 3);have hb2:=hb1.alloc (by simp) (.cells #[.slice A n c] 58);have hsz:((w.alloc (.cells #[.int .i64 0] 3)).alloc (.cells #[.slice A n c] 58)).heap.size=w.heap.size+2:=by simp
 have hbox:=heap_alloc_new (w.alloc (.cells #[.int .i64 0] 3)) (.cells #[.slice A n c] 58);have hcell:=(Below.heap_alloc (w.alloc (.cells #[.int .i64 0] 3)) (.cells #[.slice A n c] 58) w.heap.size (by simp)).trans (heap_alloc_new w (.cells #[.int .i64 0] 3));rw[show(w.alloc (.cells #[.int .i64 0] 3)).heap.size=w.heap.size+1 from by simp]at hbox;have S:=zh (h.on hb2);have HB:Hid (0<l.length→∀a,A=some a→a.block<w.heap.size):=h.block;generalize(w.alloc (.cells #[.int .i64 0] 3)).alloc (.cells #[.slice A n c] 58)=W0 at*;refine jc0 (gf:=186) (lb:=#[.pointer (some ⟨w.heap.size+1,0,none⟩)]) rfl (enters_of Tryz.func186 (by kernel_rfl) rfl) (Y:=fun i=>i=w.heap.size)
  (jek n c A l W0 _ S.out hbox hn _ (fun h0 a ha hz=>by have:=HB.out h0 a ha;omega)) rfl (by omega) (by omega)
  (fun k W=>W.heap[w.heap.size]? =some (.cells #[.int .i64 (k:Nat)] 3 (0,0))∧Below w.heap.size w W) ?inv ?start
  (fun v=>{tmps:=#[.slice A n c,undef,.int .i64 0,.pointer (some ⟨w.heap.size,0,none⟩),.slice A n c,.func (.func 186) #[] #[.pointer (some ⟨w.heap.size+1,0,none⟩)],v,undef,undef,undef],defers:=[]}) ?assign ?body ?done
 case inv=>
  rintro k X Y ⟨h1,h2⟩ hX hK;exact⟨(hK.block _ (Array.getElem?_eq_some_iff.1 h1).1 (by omega)).trans h1,h2.trans (hK.below h2.size (fun i hi=>by omega))⟩
 case start=>
  intro W1 hb hz;exact⟨(hb.block _ (by omega)).trans hcell,hb2.trans (hb.mono hb2.size)⟩
 case assign=>
  intro y x W K hK
  gi_wp2
  simpa using hK
 case body=>
  rintro y k A' c' p V0 V hp ⟨h1,h2⟩ hz0 hk ho;have hk1:(k:Int)<1000000000:=by have:=(List.getElem?_eq_some_iff.1 hp).1;omega
  have h3:=(hk.block w.heap.size (Array.getElem?_eq_some_iff.1 h1).1 (by omega)).trans h1;have b3:=zh (h2.trans (hk.below h2.size (fun i hi=>by omega)));have hc:V.cell? ⟨w.heap.size,0,none⟩=some (.int .i64 (k:Nat)):=by rw[cell_of_row V w.heap.size 0 _ _ _ h3];rfl
  have hfz:=frozen_of_row V w.heap.size 0 _ _ h3;have H3:=zh h3;clear h1 h2 hp h3 ho hk
  gi_wp2_with fail
  exact⟨Kept.of_grown (jab _ _ _ _) (fun i hi=>by injection hi with hi;exact hi.symm),heap_setCell_same _ _ 0 _ _ _ H3.out,b3.out.setCell (p:=⟨w.heap.size,0,none⟩) (Nat.le_refl _) _⟩
 case done=>
  rintro V ⟨h1,h2⟩ hz hd;have hc:V.cell? ⟨w.heap.size,0,none⟩=some (.int .i64 ((scan l).1.length:Nat)):=by rw[cell_of_row V w.heap.size 0 _ _ _ h1];rfl
  generalize(scan l).1.length=m at*
  gi_wp2_with fail
  refine⟨by simp,.inl ⟨_,_,rfl,run_takeDeferred hd,?_⟩⟩;exact⟨_,results_tmp rfl _ _ _,rfl,h2.trans ((Kept.putObj V W0.heap.size _).below (by omega) (fun i hi=>by omega))⟩
end Go.Proofs.YtabandbigckfkaaGreatDoor
namespace Go.Proofs.YtabandbigckfkaaGreatDoor
open Go.RowKit Go.Shelf Fr
attribute [local go_sem] Oper.semAt_some
def OwnF(w:World)(B:Nat)(v:Value)(ls:List (List Nat)):Prop:=
 ∃xs,w.ownsRow B 58 1 v ls.length xs∧∀j,j<ls.length→∃x,xs[j]? =some x∧Fits w v x (ls.getD j [])∧∀a n c,x= .slice (some a) n c→B≤a.block
theorem OwnF.none_(w:World)(B:Nat):OwnF w B (.slice none 0 0) []:=⟨[],World.ownsRow_nil _ _ _ _,fun j hj=>by simp at hj⟩
theorem OwnF.rows{w:World}{B:Nat}{v:Value}{ls:List (List Nat)}(h:OwnF w B v ls):OwnS w B v ls:=by
 obtain⟨xs,h1,h2⟩:=h;exact⟨xs,h1,fun j hj=>by obtain⟨x,h3,h4,_⟩:=h2 j hj;exact⟨x,h3,h4⟩⟩
theorem OwnF.lower{w:World}{B B':Nat}{v:Value}{ls:List (List Nat)}(h:OwnF w B v ls)(hB:B'≤B):OwnF w B' v ls:=by
 obtain⟨xs,h1,h2⟩:=h;exact⟨xs,jb7 h1 hB,fun j hj=>by obtain⟨x,h3,h4,h5⟩:=h2 j hj;exact⟨x,h3,h4,fun a n c e=>Nat.le_trans hB (h5 a n c e)⟩⟩
theorem OwnF.kept{F:Nat→Prop}{w w':World}{B:Nat}{v:Value}{ls:List (List Nat)}(h:OwnF w B v ls)(hk:Kept F w w')(hF:∀i,B≤i→i<w.heap.size→¬F i):OwnF w' B v ls:=by
 obtain⟨xs,ho,hf⟩:=h;refine⟨xs,⟨ho.1,?_⟩,fun j hj=> ?_⟩
 ·rcases ho.2 with h2|⟨g,cap,cur,hv,hg,hh,r⟩
  ·exact .inl h2
  ·have hlt:=(Array.getElem?_eq_some_iff.1 hh).1
   exact .inr ⟨g,cap,cur,hv,hg,(hk.block g hlt (hF g hg hlt)).trans hh,r⟩
 ·obtain⟨x,hx,⟨A,n,c,e,hs,hfar⟩,hb⟩:=hf j hj
  refine⟨x,hx,⟨A,n,c,e,⟨⟨hs.rd.1,fun hl=> ?_⟩,hs.len,hs.cap,hs.max,hs.nil⟩,hfar⟩,hb⟩;obtain⟨b,o,e2,hbb,hc⟩:=hs.rd.2 hl;exact⟨b,o,e2,Nat.lt_of_lt_of_le hbb hk.size,fun i hi=>(jiy (a:=⟨b,o+i,none⟩) (hk.block b hbb (hF b (hb ⟨b,o,none⟩ n c (by rw[e,e2])) hbb))).trans (hc i hi)⟩
theorem OwnF.below{w w':World}{B:Nat}{v:Value}{ls:List (List Nat)}(h:OwnF w B v ls)(hb:Below w.heap.size w w'):OwnF w' B v ls:=h.kept (Kept.of_below (F:=fun _=>False) hb) fun _ _ _ hf=>hf
theorem jdn{F:Fence}{nF:Nat}{w:World}{ops:Array Oper}{rest:List Oper}{op:Oper}{a:Act}{Q:Exit→Act→World→Prop}(hgd:op.guard=none)(s x:Operand)
  (ho:op.op= .call {callee:= .builtin .append,args:=#[s,x],argTypes:=#[106,106]})
  (base:Nat) (v:Value) (ls:List (List Nat)) (hs:a.eval s=v) (hown:OwnF w base v ls) (A:Option Addr) (n c:Nat) (l:List Nat) (hl:Sl w A n c l) (hA:∀a,A=some a→base≤a.block) (hx:a.eval x= .slice (some ⟨w.heap.size,0,none⟩) 1 1)
  (hfar:∀a,A=some a→v.ownBlock≠some a.block) (hlen:ls.length≤3000000000) (hbase:base≤w.heap.size)
  (h:∀v' w',OwnF w' base v' (ls++[l])→w.grownBy w' v.ownBlock→wpListIn F nF Tryz.prog ops Q rest (a.put op.dst v') w'):wpListIn F nF Tryz.prog ops Q (op::rest) a (w.alloc (.cells #[.slice A n c] 58)):=by
 obtain⟨i0,hi0,hz0,hz1,hz2⟩:=info_parts jpe;have hb:=(Below.refl w.heap.size w).alloc (Nat.le_refl _) (.cells #[.slice A n c] 58);have hvlt:=hown.rows.base;obtain⟨xs,ho1,hf⟩:=hown.below hb;have hxl:=ho1.1;rw[Nat.mul_one]at hxl;refine wpListIn_append_own_at (F:=F) (nF:=nF) (P:=Tryz.prog) (w.alloc (.cells #[.slice A n c] 58)) hgd s x 106 ho base 58 i0 _ 1 24 Tryz.underlying106 hi0 hz0 hz1 hz2 rfl (by omega) v ls.length xs hs ho1 ⟨w.heap.size,0,none⟩ 1 1 [.slice A n c] hx rfl ?_ ?_ (by unfold maxLen;omega) (by omega) (by simp;omega) ?_
 ·intro j u hu
  rcases j with _|j
  ·simp at hu
   subst hu;have:((⟨w.heap.size,0,none⟩:Addr).add 0)=⟨w.heap.size,0,none⟩:=by unfold Addr.add;split<;>simp_all
   rw[this,World.cell?_alloc_at _ _ _ _ rfl];rfl
  ·simp at hu
 ·intro u hu;simp at hu;subst hu;rfl
 ·intro v' w' h1 h2 _ h4
  have hg:w.grownBy w' v.ownBlock:=jaf (World.grownBy_alloc w _ _) h2;have hsz:(w.alloc (.cells #[.slice A n c] 58)).heap.size=w.heap.size+1:=by simp
  refine h v' w' ⟨xs++[.slice A n c],by rw[List.length_append];exact h1,fun j hj=> ?_⟩ hg;rw[List.length_append,List.length_singleton]at hj;by_cases hjl:j<ls.length
  ·obtain⟨y,hy,hfy,hby⟩:=hf j hjl
   refine⟨y,?_,?_,hby⟩
   ·rw[List.getElem?_append_left (by omega)];exact hy
   ·rw[jd6 _ _ _ _ hjl];exact hfy.grown h2 h4
  ·obtain rfl:j=ls.length:=by omega
   refine⟨.slice A n c,by rw[List.getElem?_append_right (by omega),hxl];simp,?_,fun a' n' c' e=>by injection e with e1;exact hA a' e1⟩
   rw[jd7 _ _ _ _ (Nat.le_refl _) (by simp),Nat.sub_self];exact(Fits.grown ⟨A,n,c,rfl,hl.on hb,fun _ a ha=>hfar a ha⟩ h2 h4)
def JAllF(ls:List (List Nat))(w:World)(e:Ending)(w':World):Prop:=∃A c,e= .returned (.slice A ls.length c)∧OwnF w' w.heap.size (.slice A ls.length c) ls∧Below w.heap.size w w'
theorem js9(p0 d0:Option Addr)(l:List Nat)(w:World)(hl:l.length≤1000000000)
  (hd:∀W,Below w.heap.size w W→Calls Tryz.prog 104 #[.pointer p0] W fun e w'=>e= .returned (.pointer d0)∧w'=W)
  (ha:∀W,Below w.heap.size w W→Calls Tryz.prog 59 #[.pointer d0] W (jef l W)):
  Calls Tryz.prog 70 #[.pointer p0] w (JAllF (scan l).1 w):=by
 have HD:=zh hd;have HA:=zh ha;clear hd ha;refine(callsIn_wide (n:=3)).1 ?_;refine callsIn_of_wp_marks Tryz.func70 rfl trivial ?_ rfl;simp only[Tryz.ntmps70,List.size_toArray,List.length_cons,List.length_nil,Nat.reduceAdd,Nat.reduceSub,Array.replicate_succ,Array.replicate_zero,List.push_toArray,List.append_toArray,List.nil_append,List.cons_append];have hcount:(scan l).1.length≤1000000000:=Nat.le_trans (scan_count l) hl;have hb1:=(Below.refl w.heap.size w).alloc (Nat.le_refl _) (.cells #[.slice none 0 0] 106);have hc1:=heap_alloc_new w (.cells #[.slice none 0 0] 106);have hs1:(w.alloc (.cells #[.slice none 0 0] 106)).heap.size=w.heap.size+1:=by simp
 gi_wp2_with fail
 generalize w.alloc (.cells #[.slice none 0 0] 106)=w1 at*;refine⟨trivial,callsIn_wide.2 ?_⟩;refine(HD.out w1 hb1).mono ?_;rintro e w1' ⟨rfl,rfl⟩
 gi_wp2_with fail
 refine⟨trivial,callsIn_wide.2 ?_⟩;refine(HA.out w1' hb1).mono ?_;rintro e w2 ⟨A2,c2,rfl,ho2,hb2⟩
 gi_wp2_with fail
 refine⟨trivial,callsIn_wide.2 ?_⟩;refine(je6 _ c2 A2 _).mono ?_;rintro e w3 ⟨rfl,rfl⟩
 gi_wp2_with fail
 have hb3:=(Below.refl w2.heap.size w2).alloc (Nat.le_refl _) (.cells #[.slice A2 l.length c2] 58);have hbox:=heap_alloc_new w2 (.cells #[.slice A2 l.length c2] 58);have hs3:(w2.alloc (.cells #[.slice A2 l.length c2] 58)).heap.size=w2.heap.size+1:=by simp
 have S:=zh (ho2.sls.on hb3);have hfrom:=ho2.from_;have hlt2:=ho2.sls.block;have hz2:=hb2.size;have hcell:=(hb3.block w.heap.size (by omega)).trans ((hb2.block w.heap.size (by omega)).trans hc1);have hbw:=(hb1.trans (hb2.mono hb1.size)).trans (hb3.mono (Nat.le_trans hb1.size hb2.size));generalize w2.alloc (.cells #[.slice A2 l.length c2] 58)=W0 at*;clear ho2 hc1 hb1 hb2 hb3;refine jc0 (gf:=186) (lb:=#[.pointer (some ⟨w2.heap.size,0,none⟩)]) rfl (enters_of Tryz.func186 (by kernel_rfl) rfl) (Y:=fun i=>i=w.heap.size∨W0.heap.size+2≤i)
  (jek l.length c2 A2 l W0 _ S.out hbox hl _ (fun h0 a ha hz=>by have:=hfrom a ha;have:=hlt2 h0 a ha;omega)) rfl (by omega) (by omega)
  (fun k W=>(∃v,W.heap[w.heap.size]? =some (.cells #[v] 106 (0,0))∧OwnF W (W0.heap.size+2) v ((scan l).1.take k))∧Below w.heap.size w W) ?inv ?start
  (fun x=>{tmps:=#[.pointer p0,undef,.slice none 0 0,.pointer (some ⟨w.heap.size,0,none⟩),x,.pointer p0,.pointer d0,.slice A2 l.length c2,.func (.func 186) #[] #[.pointer (some ⟨w2.heap.size,0,none⟩)],x,undef,undef,undef,undef,undef],defers:=[]}) ?assign ?body ?done
 case inv=>
  rintro k X Y ⟨⟨v,h1,h3⟩,h2⟩ hX hK;exact⟨⟨v,(hK.block _ (Array.getElem?_eq_some_iff.1 h1).1 (by omega)).trans h1,h3.kept hK (fun i hi _ hf=>by omega)⟩,h2.trans (hK.below h2.size (fun i hi=>by omega))⟩
 case start=>
  intro W1 hb hz;exact⟨⟨_,(hb.block _ (by omega)).trans hcell,by rw[List.take_zero];exact OwnF.none_ _ _⟩,hbw.trans (hb.mono hbw.size)⟩
 case assign=>
  intro y x W K hK
  gi_wp2
  exact hK
 case body=>
  rintro y k A' c' p V0 V hp ⟨⟨v,h1,h3⟩,h2⟩ hz0 hk ho;have hkl:=(List.getElem?_eq_some_iff.1 hp).1;have HL:Hid (((scan l).1.take k).length≤3000000000):=by show _≤_;rw[List.length_take];omega
  have HT:Hid ((scan l).1.take (k+1)=(scan l).1.take k++[p]):=by
   show _=_;rw[List.take_succ_eq_append_getElem hkl,(List.getElem?_eq_some_iff.1 hp).2]
  obtain⟨q,hq⟩:∃q,q=(scan l).1.take k:=⟨_,rfl⟩;rw[←hq]at h3 HL HT;have HQ:=zh hq;clear hq;have hzV:=hk.size;have hv0:=h3.rows.base;have h1V:=(hk.block w.heap.size (Array.getElem?_eq_some_iff.1 h1).1 (by omega)).trans h1;have h3V:=h3.kept hk (fun i hi _ hf=>by omega);have b3:=zh (h2.trans (hk.below h2.size (fun i hi=>by omega)));have hc:V.cell? ⟨w.heap.size,0,none⟩=some v:=by rw[cell_of_row V w.heap.size 0 _ _ _ h1V];rfl
  have H1:=zh h1V;have H3:=zh h3V;have HO:=zh ho;have HF:Hid (∀a,A'=some a→v.ownBlock≠some a.block):=fun a ha e=>by
   have h5:=HO.out.from_ a ha;have h6:=(hv0 _ e).2;omega
  have HBl:Hid (∀a,A'=some a→W0.heap.size+2≤a.block):=fun a ha=>Nat.le_trans hz0 (HO.out.from_ a ha);have HV0:Hid (∀i,v.ownBlock=some i→W0.heap.size+2≤i):=fun i e=>(hv0 i e).1;have HV:Hid (v.ownBlock≠some w.heap.size):=fun e=>by have:=(hv0 _ e).1;omega
  have hbase:W0.heap.size+2≤V.heap.size:=by omega
  obtain⟨Av,cv,rfl,_⟩:=h3V.rows.sls;clear h1 h2 hp h3 ho hk h1V h3V hv0 hkl
  gi_wp2_with (gi_at_builtin;refine jdn rfl (.tmp 10) (.tmp 12) rfl (W0.heap.size+2) _ _ rfl H3.out A' p.length c' p HO.out.sls HBl.out rfl HF.out HL.out hbase ?_;intro v3 w3 ho3 hg3;have O3:=zh ho3;have G3:=zh hg3;have hb3':=(hg3.block w.heap.size (Array.getElem?_eq_some_iff.1 H1.out).1 (fun e=>HV.out e.symm)).trans H1.out;obtain⟨A3,c3,rfl,_⟩:=ho3.rows.sls;have hc3:=frozen_of_row w3 w.heap.size 0 _ _ hb3';have hc4:=cell_of_row w3 w.heap.size 0 _ _ _ hb3';have B3:=zh hb3';clear ho3 hg3 hb3')
  have k1:Kept (fun i=>i=w.heap.size∨w2.heap.size+1+2≤i) V w3:=Kept.of_grown G3.out (fun i e=> .inr (by have:=HV0.out i e;omega));have k2:Kept (fun i=>i=w.heap.size) w3 (w3.setCell ⟨w.heap.size,0,none⟩ (.slice A3 (q.length+1) c3)):=Kept.of_grown (jab _ _ _ _) (fun i hi=>by injection hi with hi;exact hi.symm)
  have k3:=k1.trans k2 fun _ _ h=> .inl h;have o3:=O3.out;rw[hs3,List.length_append,List.length_singleton]at o3;refine⟨k3,⟨_,heap_setCell_same _ _ 0 _ _ _ B3.out,?_⟩,b3.out.trans (k3.below b3.out.size (fun i hi=>by omega))⟩;rw[HT.out];exact o3.kept k2 fun i h1 _ h2=>by omega
 case done=>
  rintro V ⟨⟨v,h1,h3⟩,h2⟩ hz hdd;rw[List.take_length]at h3;obtain⟨Av,cv,rfl,_⟩:=h3.rows.sls;have hc:V.cell? ⟨w.heap.size,0,none⟩=some (.slice Av (scan l).1.length cv):=by rw[cell_of_row V w.heap.size 0 _ _ _ h1];rfl
  gi_wp2_with fail
  refine⟨by simp,.inl ⟨_,_,rfl,run_takeDeferred hdd,?_⟩⟩;have k4:=Kept.putObj V W0.heap.size (.deferred none);exact⟨_,results_tmp rfl _ _ _,Av,cv,rfl,(h3.kept k4 fun i h1 _ h2=>by omega).lower (by omega),h2.trans (k4.below (by omega) (fun i hi=>by omega))⟩
end Go.Proofs.YtabandbigckfkaaGreatDoor
namespace Go.Proofs.YtabandbigckfkaaGreatDoor
open Go.RowKit
namespace Jn
open Fr
def Whole(d:Dk.St):Prop:=∃k ps,(∀p∈ps,ok p)∧k≤ps.length∧d=Js d.room k ps
theorem Whole.byt{d:Dk.St}(h:Whole d):Byt d:=by
 obtain⟨k,ps,h1,h2,h3⟩:=h;rw[h3];exact js_byt h1
theorem Whole.opened{d:Dk.St}(h:Byt d):Whole (opened d):=by
 obtain⟨h1,h2,h3,h4,h5⟩:=opened_l d h;refine⟨(ents d).length,ents d,h5,Nat.le_refl _,?_⟩;unfold Js;rw[List.take_length,←h1];show(⟨(Jn.opened d).room,(Jn.opened d).safe,(Jn.opened d).l⟩:Dk.St)=_;rw[h2,h1]
theorem putE_zero{p:List Nat}(h:putE p=0)(hb:∀x∈p,x<256):ok p:=⟨by have:=(put_ok h).1;omega,(put_ok h).2,hb⟩
theorem Whole.app{d:Dk.St}(h:Whole d){p:List Nat}(hp:∀x∈p,x<256):Whole (app d p):=by
 obtain⟨k,ps,h1,h2,h3⟩:=h;unfold Jn.app;by_cases he:putE p=0
 ·rw[if_neg (by omega)]
  unfold Dk.write;split
  ·rename_i hg
   have ho:=putE_zero he hp;refine⟨k,ps++[p],?_,by rw[List.length_append];omega,?_⟩
   ·intro x hx
    rcases List.mem_append.1 hx with hx|hx
    ·exact h1 x hx
    ·rw[List.mem_singleton.1 hx];exact ho
   ·unfold Js
    rw[List.take_append_of_le_length h2,all_append,all_one];have e1:=congrArg Dk.St.safe h3;have e2:=congrArg Dk.St.l h3;unfold Js at e1 e2;show(⟨d.room,d.safe,d.l++fr p⟩:Dk.St)=_;rw[e1,e2]
  ·exact⟨k,ps,h1,h2,h3⟩
 ·rw[if_pos he]
  exact⟨k,ps,h1,h2,h3⟩
theorem Whole.torn{d:Dk.St}(h:Whole d){p:List Nat}(hp:∀x∈p,x<256)(keep:Int):Whole (torn d p keep):=by
 unfold Jn.torn;split
 ·exact h
 ·exact Whole.opened (Byt.sync (h.byt.write fun x hx=>fr_byte hp x (List.mem_of_mem_take hx)))
theorem Whole.sync{d:Dk.St}(h:Whole d):Whole (Dk.sync d):=by
 obtain⟨k,ps,h1,h2,h3⟩:=h;refine⟨ps.length,ps,h1,Nat.le_refl _,?_⟩;have:=congrArg Dk.sync h3;rw[js_sync]at this;exact this
theorem bad_zero{ls:List (List Nat)}(h:bad ls=0):∀p∈ls,putE p=0:=by
 induction ls with
 |nil=>intro p hp;cases hp
 |cons q qs ih=>
  unfold bad at h;split at h
  ·omega
  ·intro p hp
   rcases List.mem_cons.1 hp with rfl|hp
   ·omega
   ·exact ih h p hp
theorem Whole.swap{d:Dk.St}(h:Whole d){ls:List (List Nat)}(hl:∀p∈ls,∀x∈p,x<256):Whole (swap d ls):=by
 unfold Jn.swap;by_cases hb:bad ls=0
 ·rw[if_neg (by omega)]
  unfold Dk.swap;split
  ·refine⟨ls.length,ls,fun p hp=>putE_zero (bad_zero hb p hp) (hl p hp),Nat.le_refl _,?_⟩
   unfold Js;rw[List.take_length]
  ·exact h
 ·rw[if_pos hb]
  exact h
theorem Whole.syncN{d:Dk.St}(h:Whole d):(((scan (d.l.drop d.safe)).1.length:Nat):Int)=((ents d).length:Nat) -(safeN d:Nat):=by
 obtain⟨k,ps,h1,h2,h3⟩:=h;have e:ents d=ps:=by rw[h3];exact js_ents h1
 have s:safeN d=k:=by rw[h3];exact js_safe h1 h2
 have d1:d.l.drop d.safe=all (ps.drop k):=by
  rw[h3];unfold Js;show(all ps).drop (all (ps.take k)).length=_
  conv=>lhs;rw[←List.take_append_drop k ps,all_append]
  rw[List.take_append_drop,List.drop_left'];rfl
 rw[e,s,d1,scan_whole (fun p hp=>h1 p (List.mem_of_mem_drop hp)),List.length_drop];omega
theorem crash_all(d:Dk.St)(h:Dk.Okay d):Dk.crash d (d.l.length:Nat)=Dk.sync d:=by
 have h1:=h.1;have:d.safe+Dk.kept d (d.l.length:Nat)=d.l.length:=by unfold Dk.kept Dk.opens;omega
 unfold Dk.crash Dk.leave Dk.sync;rw[this,List.take_length]
end Jn
def DskX(w:World)(X:Nat→Prop)(r:Nat)(d:Dk.St):Prop:=∃v,Dsk w r v d∧∀i,foot r v i→X i
theorem DskX.okay{w:World}{X:Nat→Prop}{r:Nat}{d:Dk.St}(h:DskX w X r d):Dk.Okay d:=by
 obtain⟨v,h1,h2⟩:=h;exact h1.okay
theorem DskX.keep{w w':World}{X:Nat→Prop}{r:Nat}{d:Dk.St}(h:DskX w X r d)(hk:∀i,X i→i<w.heap.size→w'.heap[i]? =w.heap[i]?):DskX w' X r d:=by
 obtain⟨v,h1,h2⟩:=h;exact⟨v,h1.keep fun i hi=>hk i (h2 i hi) (h1.lt i hi),h2⟩
theorem DskX.below{w w':World}{X:Nat→Prop}{r:Nat}{d:Dk.St}(h:DskX w X r d)(hb:Below w.heap.size w w'):DskX w' X r d:=h.keep fun i _ hi=>hb.block i hi
theorem DskB.toX{w:World}{B r:Nat}{d:Dk.St}{X:Nat→Prop}(h:DskB w B r d)(hX:∀i,B≤i→i<w.heap.size→X i):DskX w X r d:=by
 obtain⟨v,h1,h2⟩:=h;exact⟨v,h1,fun i hi=>hX i (h2 i hi) (h1.lt i hi)⟩
def jc1(W:World)(X:Nat→Prop)(r:Nat)(d:Dk.St)(x:Value)(e:Ending)(w':World):Prop:=e= .returned x∧DskX w' X r d∧Kept X W w'
theorem jc1.mk{W:World}{X:Nat→Prop}{r:Nat}{v:Value}{d:Dk.St}{x:Value}{e:Ending}{w':World}(h:jcv W r v d x e w')(hv:∀i,foot r v i→X i)(hX:∀i,W.heap.size≤i→X i):jc1 W X r d x e w':=by
 obtain⟨rfl,v',h1,h2,h3⟩:=h;refine⟨rfl,⟨v',h1,?_⟩,h3.more fun i _ hi=>hv i hi⟩;rintro i (rfl|hi)
 ·exact hv _ (.inl rfl)
 ·rcases h2 i hi with h4|h4
  ·exact hv i (.inr h4)
  ·exact hX i h4
section
variable(W:World){X:Nat→Prop}{r:Nat}{d:Dk.St}(hd:DskX W X r d)(hX:∀i,W.heap.size≤i→X i)
include hd hX
theorem jlt{n c:Nat}{A:Option Addr}{b:List Nat}(hs:Sl W A n c b):Calls Tryz.prog 105 #[.pointer (some ⟨r,0,none⟩),.slice A n c] W (jc1 W X r (Dk.write d b) (.int .i64 (Dk.writeE d b))):=by
 obtain⟨v,h1,h2⟩:=hd;exact(jmw W r n c A b v d h1 hs).mono fun _ _ h=>jc1.mk h h2 hX
theorem dSwap_x{n c:Nat}{A:Option Addr}{b:List Nat}(hs:Sl W A n c b):Calls Tryz.prog 57 #[.pointer (some ⟨r,0,none⟩),.slice A n c] W (jc1 W X r (Dk.swap d b) (.int .i64 (Dk.swapE d b))):=by
 obtain⟨v,h1,h2⟩:=hd;exact(jiq W r n c A b v d h1 hs).mono fun _ _ h=>jc1.mk h h2 hX
theorem dSync_x:Calls Tryz.prog 114 #[.pointer (some ⟨r,0,none⟩)] W (jc1 W X r (Dk.sync d) (.int .i64 (Dk.opens d:Nat))):=by
 obtain⟨v,h1,h2⟩:=hd;exact(jo4 W r v d h1).mono fun _ _ h=>jc1.mk h h2 hX
theorem jta{keep:Int}(hk: -9223372036854775808≤keep∧keep≤9223372036854775807):Calls Tryz.prog 106 #[.pointer (some ⟨r,0,none⟩),.int .i64 keep] W (jc1 W X r (Dk.crash d keep) (.int .i64 (Dk.lost d keep:Nat))):=by
 obtain⟨v,h1,h2⟩:=hd;exact(jmv W r keep v d h1 hk).mono fun _ _ h=>jc1.mk h h2 hX
theorem dCut_x{n:Int}(hk: -9223372036854775808≤n∧n≤9223372036854775807):Calls Tryz.prog 181 #[.pointer (some ⟨r,0,none⟩),.int .i64 n] W (jc1 W X r (Dk.cut d n) (.int .i64 (Dk.cutE d n))):=by
 obtain⟨v,h1,h2⟩:=hd;exact(jsj W r n v d h1 hk).mono fun _ _ h=>jc1.mk h h2 hX
omit hX in
theorem jlu:Calls Tryz.prog 59 #[.pointer (some ⟨r,0,none⟩)] W (jef d.l W):=by
 obtain⟨v,h1,_⟩:=hd;exact jsg W r v d h1
omit hX in
theorem dLen_x:Calls Tryz.prog 107 #[.pointer (some ⟨r,0,none⟩)] W (jdu W (.int .i64 (d.l.length:Nat))):=by
 obtain⟨v,h1,_⟩:=hd;exact jsf W r v d h1
omit hX in
theorem jpx:Calls Tryz.prog 113 #[.pointer (some ⟨r,0,none⟩)] W (jdu W (.int .i64 (d.safe:Nat))):=by
 obtain⟨v,h1,_⟩:=hd;exact jo3 W r v d h1
omit hX in
theorem dRoom_x:Calls Tryz.prog 146 #[.pointer (some ⟨r,0,none⟩)] W (jdu W (.int .i64 (d.room -d.l.length:Nat))):=by
 obtain⟨v,h1,_⟩:=hd;exact jip W r v d h1
end
open Fr
structure JAsk(p0 d0:Option Addr)(l:List Nat)(s R:Nat)(w:World):Prop where
 disk:∀W,Below w.heap.size w W→Calls Tryz.prog 104 #[.pointer p0] W fun e w'=>e= .returned (.pointer d0)∧w'=W
 all:∀W,Below w.heap.size w W→Calls Tryz.prog 59 #[.pointer d0] W (jef l W)
 safe:∀W,Below w.heap.size w W→Calls Tryz.prog 113 #[.pointer d0] W (jdu W (.int .i64 (s:Nat)))
 room:∀W,Below w.heap.size w W→Calls Tryz.prog 146 #[.pointer d0] W (jdu W (.int .i64 (R:Nat)))
 le:s≤l.length
 few:l.length≤1048576
theorem jc2(w:World)(q:Nat)(d0:Option Addr)(h:w.heap[q]? =some (.cells #[.pointer d0] 176 (0,0))):
  Calls Tryz.prog 104 #[.pointer (some ⟨q,0,none⟩)] w fun e w'=>e= .returned (.pointer d0)∧w'=w:=by
 have hc:w.cell? ⟨q,0,none⟩=some (.pointer d0):=by rw[cell_of_row w q 0 _ _ _ h];rfl
 clear h;go_enter Tryz.func104,Tryz.ntmps104;go_wp2_with fail;go_ret;exact⟨rfl,rfl⟩
section
variable{p0 d0:Option Addr}{l:List Nat}{s R:Nat}{w:World}(h:JAsk p0 d0 l s R w)
include h
theorem jlv:Calls Tryz.prog 70 #[.pointer p0] w (JAllF (scan l).1 w):=js9 p0 d0 l w (by have:=h.few;omega) h.disk h.all
theorem jtb:Calls Tryz.prog 78 #[.pointer p0] w (jdu w (.int .i64 ((scan l).1.length:Nat))):=by
 have H:=zh h;clear h;go_enter Tryz.func78,Tryz.ntmps78;go_wp2_with fail;refine(H.out.disk w (Below.refl _ _)).mono ?_;rintro e w1 ⟨rfl,rfl⟩;go_wp2_with fail;refine(H.out.all w1 (Below.refl _ _)).mono ?_;rintro e w2 ⟨A2,c2,rfl,ho2,hb2⟩;have S2:=zh ho2.sls;have B2:=zh hb2;clear ho2 hb2;go_wp2_with fail
 (with_reducible refine(jg4 l.length c2 A2 l w2 S2.out (by have:=H.out.few;omega)).mono ?_)
 rintro e w3 ⟨rfl,hb3⟩;have B3:=zh (B2.out.trans (hb3.mono B2.out.size));clear hb3;go_wp2_with fail;go_ret;exact⟨rfl,B3.out⟩
theorem jpy:Calls Tryz.prog 79 #[.pointer p0] w (jdu w (.int .i64 (R:Nat))):=by
 have H:=zh h;clear h;go_enter Tryz.func79,Tryz.ntmps79;go_wp2_with fail;refine(H.out.disk w (Below.refl _ _)).mono ?_;rintro e w1 ⟨rfl,rfl⟩;go_wp2_with fail;refine(H.out.room w1 (Below.refl _ _)).mono ?_;rintro e w2 ⟨rfl,hb2⟩;have B2:=zh hb2;clear hb2;go_wp2_with fail;go_ret;exact⟨rfl,B2.out⟩
theorem jlw{d:Dk.St}(hR:d.room -d.l.length=R)(hok:Dk.Okay d){a:Addr}(hd:d0=some a)(n c:Nat)(A:Option Addr)(p:List Nat)(hs:Sl w A n c p)(hn:n≤900000000):
  Calls Tryz.prog 103 #[.pointer p0,.slice A n c] w fun e w'=>∃A' c' f,e= .returned (.tuple #[.slice A' f.length c',.int .i64 (Jn.appE d p)])∧OwnB w' w.heap.size (.slice A' f.length c') f∧(Jn.appE d p=0→f=fr p)∧Below w.heap.size w w':=by
 have H:=zh h;have HS:=zh hs;subst hd;clear h hs;unfold Dk.Okay at hok;by_cases h0:putE p=0
 ·have hp:=Jn.put_ok h0
  have h2:=jf4 (b:=[]) hp.1 hp.2;have HL:Hid (putL [] p=fr p):=by show putL [] p=fr p;rw[h2.2];rfl
  have HE:Hid (Jn.appE d p=Dk.writeE d (fr p)):=by show Jn.appE d p=_;unfold Jn.appE;rw[if_neg (by omega)]
  have HF:Hid ((fr p).length=p.length+6):=fr_length p;have hfl:(fr p).length≤1006:=by rw[HF.out];omega
  clear h2;go_enter Tryz.func103,Tryz.ntmps103;go_wp2_with fail;refine(H.out.disk w (Below.refl _ _)).mono ?_;rintro e w1 ⟨rfl,rfl⟩;go_wp2_with fail
  (with_reducible refine(jhm 0 0 n c none A [] p w1 (Sl.none_ _) HS.out (by omega) hn).mono ?_)
  rintro e w2 ⟨A2,c2,rfl,ho2,hb2⟩;rw[HL.out,h0]at*;have O2:=zh ho2;have B2:=zh hb2;clear ho2 hb2;obtain⟨m,hm⟩:∃m,m=(fr p).length:=⟨_,rfl⟩;rw[←hm];have HM:=zh hm;rw[←hm]at hfl;clear hm;go_wp2_with fail;refine(H.out.room w2 B2.out).mono ?_;rintro e w3 ⟨rfl,hb3⟩;have O3:=zh (O2.out.below hb3);have B3:=zh (B2.out.trans (hb3.mono B2.out.size));clear hb3;by_cases hg:R<m
  ·have HG:Hid (Dk.writeE d (fr p)=4):=by show Dk.writeE d (fr p)=4;unfold Dk.writeE;rw[if_neg];unfold Dk.goes;rw[←HM.out];omega
   go_wp2_with fail;go_ret2;refine⟨none,0,[],?_,OwnB.none_ _ _,fun e=> ?_,B3.out⟩
   ·rw[HE.out,HG.out];rfl
   ·rw[HE.out,HG.out]at e;omega
  ·have HG:Hid (Dk.writeE d (fr p)=0):=by show Dk.writeE d (fr p)=0;unfold Dk.writeE;rw[if_pos];unfold Dk.goes;rw[←HM.out];omega
   go_wp2_with fail;go_ret2;refine⟨A2,c2,fr p,?_,O3.out,fun _=>rfl,B3.out⟩;rw[HE.out,HG.out,HM.out];rfl
 ·have HE:Hid (Jn.appE d p=(putE p:Nat)):=by show Jn.appE d p=_;unfold Jn.appE;rw[if_pos h0]
  have h1:((putE p:Nat):Int)≠0:=by omega
  have HB:Hid (((putE p:Nat):Int) !=0):=by show(_ !=_)=true;rw[bne_iff_ne];exact h1
  have hbool:=HB.out;go_enter Tryz.func103,Tryz.ntmps103;go_wp2_with fail;refine(H.out.disk w (Below.refl _ _)).mono ?_;rintro e w1 ⟨rfl,rfl⟩;go_wp2_with fail
  (with_reducible refine(jhm 0 0 n c none A [] p w1 (Sl.none_ _) HS.out (by omega) hn).mono ?_)
  rintro e w2 ⟨A2,c2,rfl,ho2,hb2⟩;have B2:=zh hb2;clear ho2 hb2;generalize putE p=ee at*;go_wp2_with fail;go_ret2;refine⟨none,0,[],?_,OwnB.none_ _ _,fun e=> ?_,B2.out⟩
  ·rw[HE.out];rfl
  ·rw[HE.out]at e;exact absurd e h1
end
end Go.Proofs.YtabandbigckfkaaGreatDoor
namespace Go.Proofs.YtabandbigckfkaaGreatDoor
open Go.RowKit
def Jn.syncN(d:Dk.St):Int:=((Jn.ents d).length:Nat) -(Jn.safeN d:Nat)
end Go.Proofs.YtabandbigckfkaaGreatDoor
