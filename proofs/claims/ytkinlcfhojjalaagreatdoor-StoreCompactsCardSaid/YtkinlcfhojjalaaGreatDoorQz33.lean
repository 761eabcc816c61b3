import Derived.Test.YtkinlcfhojjalaaGreatDoorQz32
set_option maxHeartbeats 6400000
set_option maxRecDepth 100000
set_option linter.all false
namespace Go.Proofs.YtkinlcfhojjalaaGreatDoor
open Go.RowKit Go.Deep Go.Maps
theorem jl7{A:Option Addr}{k c:Nat}{l:List Rc.R}(w:World)(hs:SlF Bk.rcC w A k c l)(hr:∀r∈l,Rc.right r=true)(hk:k<=1000):
  Calls Tryz.prog 26 #[.slice A k c] w (fun e w'=>∃A' c',e= .returned (.slice A' k c')/\SlS w' A' k c' (So.ens l)/\zF w w'):=by
 have S0:=zh hs;have HR:=zh hr;have HL:=zh hs.len;have hcap:=hs.cap;clear hs hr;go_in;go_wp2_with fail;go_loopw [3,10] (fun v i wr=>∃j:Nat,j<=k/\i= .int .i64 j/\OwnS wr w.heap.size v (So.ens (l.take j))/\zF w wr) (fun _ i _=>k -(intOf i).toNat)
 case atStart=>exact⟨0,Nat.zero_le _,rfl,OwnS.none_ _ _,zD⟩
 case round=>
  obtain⟨j,hj,rfl,ho,hb⟩:=hrel;have O1:=zh ho;have B1:=zh hb;clear ho hb;have i1:(0:Int)<=(j:Int):=by omega
  by_cases hlt:j<k
  ·have hlt2:j<l.length:=by have:=HL.o;omega
   have hx:l[j]? =some (l[j]'hlt2):=List.getElem?_eq_getElem _;have TK:Hid (So.ens (l.take (j+1))=So.ens (l.take j)++[Rc.bytes (l[j]'hlt2)]):=by
    rw[show l.take (j+1)=l.take j++[l[j]'hlt2]from List.take_succ_eq_append_getElem hlt2];exact So.ens_snoc _ _
   have RT:=zh (HR.o _ (List.getElem_mem hlt2));have LT:Hid ((So.ens (l.take j)).length<=1000):=by rw[So.ens_len,List.length_take];show _<=_;omega
   generalize l[j]'hlt2=x at*;obtain⟨b,o,rfl,hbl,hrg⟩:=jc3 (S0.o.on B1.o) hx;have RG:=zh hrg;have CB:=zh (fun W=>jh6 x (Rc.ok_in (Rc.ok_of RT.o)) W);rw[(Rc.bytes_yes RT.o).1,(Rc.bytes_yes RT.o).2]at CB;have i2:(j:Int)<(k:Nat):=by omega
   clear hx hbl hrg hlt2;go_upto_region 5 with(first
    |((with_reducible show zL 13);refine jbm rfl (.tmp 12) rfl b (o+j*18) (by simp[Act.eval,go_sem]) x RG.o ?_)
    |((with_reducible show zW);refine jaa rfl (.tmp 5) (.tmp 13) rfl wr.heap.size x Rc.none_ rfl rfl ⟨heap_alloc_new wr _⟩ ?_))
   rw[World.setRow_alloc_new];have RX:=zh (RcAt.new wr x);have hb:zF wr (wr.alloc (.cells (Rc.cells x) 56)):=zE;have O2:=zh (O1.o.below hb);have B2:=zh (B1.o.trans (hb.mono B1.o.size));clear hb RG O1;obtain⟨gx,hgx⟩:∃g,g=wr.heap.size:=zx;rw[<-hgx]at RX⊢;clear hgx;generalize wr.alloc (.cells (Rc.cells x) 56)=w2 at*;generalize hbl:Rc.bytes x=bl at*;clear hbl;go_wp2_with((with_reducible show zL 15);refine zR (.tmp 5) RX.o ?_)
   refine(CB.o _).mono ?_
   rintro e w3 ⟨A3,c3,rfl,hs3,hb3,hf3⟩;have S3:=zh hs3;have O3:=zh (O2.o.below hb3);have B3:=zh (B2.o.trans (hb3.mono B2.o.size));have F3:Hid (0<bl.length->∀a:Addr,A3=some a->u3.ownBlock≠some a.block):=fun _ a ha e2=>absurd (O2.o.base _ e2).2 (Nat.not_lt.2 (hf3 a ha));clear hs3 hb3 hf3 O2 B2;go_wp2_with(at_builtin;refine jcx rfl (.tmp 19) (.tmp 21) rfl w.heap.size u3 _ rfl O3.o A3 bl.length c3 bl S3.o rfl F3.o (by have:=LT.o;omega) B3.o.size ?_;intro v4 w4 ho4 hb4;have O4:=zh ho4;have B4:=zh (B3.o.trans hb4);clear ho4 hb4);exact⟨⟨j+1,zv,by go_num,by rw[TK.o];exact O4.o,B4.o⟩,by simp[intOf];omega⟩
  ·obtain rfl:j=k:=by omega
   have e:l.take j=l:=List.take_of_length_le (by have:=HL.o;omega);rw[e]at O1;obtain⟨Ao,co,rfl,hso⟩:=O1.o.sls;rw[So.ens_len,<-HL.o]at hso⊢;have F:=zh hso;clear e hso hlt O1;go_wp2;go_ret;exact⟨Ao,co,rfl,F.o,B1.o⟩
theorem ji4{w0 W:World}{G:Nat->Prop}{p R:Nat}{m:Int}{L:List Rc.R}(h:SA w0 G p m R L W)(ht:BT w0)(hn:L.length<=1000)(hr:(Fr.all (So.ens L)).length<=R):
  Calls Tryz.prog 9 #[.pointer (some ⟨p,0,none⟩)] W (fun e w'=>e= .returned (.int .i64 ((L.length:Int) -((Bk.dgo (Bk.new m) L).length:Nat)))/\SA w0 G p m R (Bk.dgo (Bk.new m) L) w'/\(∀i,G i->w'.heap[i]? =W.heap[i]?)/\W.heap.size<=w'.heap.size):=by
 have CR:=zh (je6 h hn);have HN:=zh hn;have HT:=zh ht;have HIN:Hid (∀r∈L,Rc.In r):=fun r hr=>Rc.ok_in (Rc.ok_of (h.right r hr));have SWP:=zh (So.disk_dgo h.took hr);have TKC:=zh (So.took_dgo h.took);have LLE:=zh (Bk.dgo_sub L (Bk.new m)).length_le;have BKE:=zh (Bk.all_dgo m L);have CC:=zh (fun A c w (hs:SlF Bk.rcC w A L.length c L) (ht:BT w)=>jkn m A L.length c L HIN.o w hs hn ht);obtain⟨Lc,hLc⟩:∃Lc,Lc=Bk.dgo (Bk.new m) L:=zx;rw[<-hLc]at SWP TKC LLE BKE CC⊢;have RTC:=zh (So.took_right TKC.o);obtain⟨_,r,q,b,X,h1,h2⟩:=h;have J0:=zh h1;have K0:=zh h2;have lq:=h1.lt;have c3:=h1.cells.2.2.2.2;clear h1 h2 hn ht hr hLc;obtain⟨n,hnn⟩:∃n,n=L.length:=zx;have NL:=zh hnn;unfold jnx at CR CC;rw[<-hnn]at CR CC HN LLE⊢;clear hnn;obtain⟨z,hzz⟩:∃z,z=Lc.length:=zx;have ZL:=zh hzz;rw[<-hzz]at LLE CC⊢;clear hzz;go_in;go_upto_region 4 with(go_at_call 21;refine CR.o.mono ?_;rintro e w3 ⟨A3,k3,rfl,hs3,hb3,_⟩;have S3:=zh hs3;have B3:=zh hb3;have J3:=zh (J0.o.on hb3);have K3:=zh (jbf K0.o hb3);clear hs3 hb3)
 clear lq c3 CR;have lq:=J3.o.lt;have c3:=J3.o.cells.2.2.2.2;go_upto_region 5 with(go_at_call 24;refine(CC.o _ _ _ S3.o (HT.o.on0 J3.o.below)).mono ?_;rintro e w4 ⟨A4,k4,rfl,hs4,hb4,_⟩;have S4:=zh hs4;have B4:=zh (B3.o.trans (hb4.mono B3.o.size));have J4:=zh (J3.o.on hb4);have K4:=zh (jbf K3.o hb4);clear hs4 hb4)
 clear lq c3 CC S3 J3 K3;have hcap:=S4.o.cap;have DR:zF w4 w4.drew:=zD.drew;have CE:=zh (jl7 _ (S4.o.on DR) RTC.o (by have:=LLE.o;have:=HN.o;omega));refine wp_region_held_drew (S:=fun V=>∃d' X',StJ w0 G p m d' (.pointer (some ⟨b,0,none⟩)) r q X' V) zk ⟨_,_,J4.o.on DR⟩ (fun hS=> ?_);refine tY 0 hS ?_;refine tY 1 hS ?_;refine tY 2 hS ?_;refine tZ 3 rfl (by intro W hW;obtain⟨d',X',hV⟩:=hW;have lq:=hV.lt;have c1:=hV.cells.2.2.1;go_simp;(try with_reducible rfl)) hS ?_;refine tY 4 hS ?_;simp only[Act.put,zT,zO,zS];refine rO 5 (fun K hK=> ?_);go_simp
 refine CE.o.mono ?_
 rintro e w5 ⟨A5,k5,rfl,hs5,hb5⟩;have J5:=zh ((J4.o.on DR).on hb5);have K5:=zh (jbf (jbf K4.o DR) hb5);have B5:=zh ((B4.o.trans (DR.mono B4.o.size)).trans (hb5.mono (B4.o.trans (DR.mono B4.o.size)).size));have CW:=zh (jk0 J5.o.jrn J5.o.fresh hs5 (by rw[So.ens_len,<-ZL.o];have:=LLE.o;have:=HN.o;omega) (fun x hx=>Nat.le_trans (So.ens_ok RTC.o x hx).2.1 zv));rw[SWP.o.1,SWP.o.2]at CW;have hS2:(fun V=>∃d' X',StJ w0 G p m d' (.pointer (some ⟨b,0,none⟩)) r q X' V) w5:=⟨_,_,J5.o⟩;clear hs5 hb5 hS DR CE J4 K4;have hS:=hS2;clear hS2;refine hK.out _ _ hS (fun _=> ?_);clear hK K;try simp only[Act.put,zT,zO,zS]
 refine rO 6 (fun K hK=> ?_);go_simp
 refine CW.o.mono ?_
 rintro e w6 ⟨rfl,hj6,hk6⟩;have T6:=zh (J5.o.turn hj6 hk6);have B6:=zh (J5.o.book K5.o hk6);have O6:=zh (J5.o.others hk6);have Z6:=zh (Nat.le_trans B5.o.size hk6.size);have hS2:(fun V=>∃d' X',StJ w0 G p m d' (.pointer (some ⟨b,0,none⟩)) r q X' V) w6:=⟨_,_,T6.o⟩;clear CW hj6 hk6 hS;have hS:=hS2;clear hS2;refine hK.out _ _ hS (fun _=> ?_);clear hK K;try simp only[Act.put,zT,zO,zS]
 refine wpAnyH_done zk ?_ _;clear hS;have g1:((n:Nat):Int)<=1000:=by have:=HN.o;omega
 have g2:((z:Nat):Int)<=(n:Nat):=by have:=LLE.o;omega
 go_wp2;go_ret;have hB:=B6.o;rw[<-BKE.o]at hB;exact⟨by go_num,⟨TKC.o,r,q,b,_,T6.o,hB⟩,fun i hi=>(O6.o i hi).trans (B5.o.block i (J0.o.g i hi)),Z6.o⟩
open Go.RowKit
def jsy(R:Int)(A B:ByteArray)(x:Int)(w:World)(e:Ending)(w':World):Prop:=e= .returned (.tuple #[.agg #[.int .i64 R,.string A,.string B],.int .i64 x])/\zF w w'
theorem je9(w:World)(o1 o2:Obj):zF w ((w.alloc o1).alloc o2):=(zD.alloc zl o1).alloc (by simp) o2
theorem jvs(n:Int)(w:World):
  Calls Tryz.prog 40 #[.int .i64 n] w fun e w'=>e= .returned (.agg #[.int .i64 (Dk.fits n:Nat),.string ⟨#[]⟩,.string ⟨#[]⟩])/\zF w w':=by
 have hf:min (max n 0) 1048576=(Dk.fits n:Nat):=by unfold Dk.fits;omega
 generalize Dk.fits n=q at*;go_in;go_wp2_with fail;exact bodyPost_ret (v:= .agg #[.int .i64 (q:Nat),.string ⟨#[]⟩,.string ⟨#[]⟩]) (by simp[results,Tryz.results40,go_sem]) rfl ⟨rfl,zE⟩
theorem jou(R:Int)(A B L:ByteArray)(w:World)(h:A.size+B.size<=1000000000)(hL:L.size<=1000000000):
  Calls Tryz.prog 88 #[.agg #[.int .i64 R,.string A,.string B],.string L] w (jsy R A (if(A.size:Int)+B.size+L.size<=R then B++L else B) (if(A.size:Int)+B.size+L.size<=R then 0 else 4) w):=by
 by_cases hg:(A.size:Int)+B.size+L.size<=R
 ·rw[if_pos hg,if_pos hg]
  go_in;go_wp2_with fail;exact bodyPost_ret (v:= .tuple #[.agg #[.int .i64 R,.string A,.string (B++L)],zi]) (by simp[results,Tryz.results88,go_sem]) rfl ⟨rfl,je9 _ _ _⟩
 ·rw[if_neg hg,if_neg hg]
  go_in;go_wp2_with fail;exact bodyPost_ret (v:= .tuple #[.agg #[.int .i64 R,.string A,.string B],.int .i64 4]) (by simp[results,Tryz.results88,go_sem]) rfl ⟨rfl,je9 _ _ _⟩
theorem jsz(R:Int)(A B:ByteArray)(w:World)(h:A.size+B.size<=1000000000):
  Calls Tryz.prog 48 #[.agg #[.int .i64 R,.string A,.string B]] w (jsy R (A++B) ⟨#[]⟩ (B.size:Nat) w):=by
 go_in;go_wp2_with fail;exact bodyPost_ret (v:= .tuple #[.agg #[.int .i64 R,.string (A++B),.string ⟨#[]⟩],.int .i64 (B.size:Nat)]) (by simp[results,Tryz.results48,go_sem]) rfl ⟨rfl,je9 _ _ _⟩
def tA(d:Dk.St):ByteArray:=txt (d.l.take d.safe)
def tB(d:Dk.St):ByteArray:=txt (d.l.drop d.safe)
theorem tA_size{d:Dk.St}(h:Dk.Okay d):(tA d).size=d.safe:=by unfold tA;rw[jbr,List.length_take];have:=h.1;omega
theorem js0(d:Dk.St):(tB d).size=Dk.opens d:=by unfold tB;rw[jbr,List.length_drop];rfl
theorem tAB(d:Dk.St):tA d++tB d=txt d.l:=by unfold tA tB;rw[jfb,List.take_append_drop]
theorem js1{d:Dk.St}(h:Dk.Okay d):(tA d).size+(tB d).size=d.l.length/\(tA d).size+(tB d).size<=1000000000:=by
 rw[tA_size h,js0];have h1:=h.1;have h2:=h.2.1;have h3:=h.2.2;unfold Dk.opens;omega
def jl8(d:Dk.St)(x:Int)(w:World)(e:Ending)(w':World):Prop:=e= .returned (.tuple #[.agg #[.int .i64 (d.room:Nat),.string (tA d),.string (tB d)],.int .i64 x])/\zF w w'
theorem jl8.of{d:Dk.St}{R:Int}{A B:ByteArray}{x y:Int}{w:World}{e:Ending}{w':World}(h:jsy R A B x w e w')(h1:R=(d.room:Nat))(h2:A=tA d)(h3:B=tB d)(h4:x=y):jl8 d y w e w':=by
 subst h1 h2 h3 h4;exact h
theorem qWrite{d:Dk.St}(h:Dk.Okay d)(b:List Nat)(hb:b.length<=1000000000)(w:World):
  Calls Tryz.prog 88 #[.agg #[.int .i64 (d.room:Nat),.string (tA d),.string (tB d)],.string (txt b)] w (jl8 (Dk.write d b) (Dk.writeE d b) w):=by
 obtain⟨h1,h2⟩:=js1 h;have hs:(txt b).size=b.length:=jbr b;refine(jou (d.room:Nat) (tA d) (tB d) (txt b) w h2 zv).mono fun e w' hp=> ?_;by_cases hg:Dk.goes d b
 ·have hc:((tA d).size:Int)+(tB d).size+(txt b).size<=(d.room:Nat):=by unfold Dk.goes at hg;omega
  rw[if_pos hc,if_pos hc]at hp;unfold Dk.write Dk.writeE;rw[if_pos hg,if_pos hg];have hsl:=h.1;refine jl8.of hp rfl ?_ ?_ rfl
  ·unfold tA;simp only;rw[List.take_append_of_le_length hsl]
  ·unfold tB;simp only;rw[List.drop_append_of_le_length hsl,jfb]
 ·have hc:¬((tA d).size:Int)+(tB d).size+(txt b).size<=(d.room:Nat):=by unfold Dk.goes at hg;omega
  rw[if_neg hc,if_neg hc]at hp;unfold Dk.write Dk.writeE;rw[if_neg hg,if_neg hg];exact hp
theorem jvt(R:Nat)(l:List Nat)(n:Nat)(hn:n=l.length):tA ⟨R,n,l⟩=txt l/\tB ⟨R,n,l⟩=⟨#[]⟩:=by
 subst hn;unfold tA tB;simp only;rw[List.take_length,List.drop_length];exact⟨rfl,rfl⟩
theorem qSync{d:Dk.St}(h:Dk.Okay d)(w:World):
  Calls Tryz.prog 48 #[.agg #[.int .i64 (d.room:Nat),.string (tA d),.string (tB d)]] w (jl8 (Dk.sync d) (Dk.opens d:Nat) w):=by
 obtain⟨h1,h2⟩:=js1 h;refine(jsz (d.room:Nat) (tA d) (tB d) w h2).mono fun e w' hp=> ?_;obtain⟨t1,t2⟩:=jvt d.room d.l d.l.length rfl;exact jl8.of hp rfl ((tAB d).trans t1.symm) t2.symm (by rw[js0])
open Fr
theorem jvu(m d:Nat)(D:Option Addr)(p:List Nat)(w:World)(h:Sl w D m d p)(hm:m<=1000):
  Calls Tryz.prog 143 #[.slice D m d] w (jep (fr p) w):=by
 have hlp:=h.len;have HP:=zh h;clear h;have HS:=zh (sl_two w (m/256%256) (m%256) zv zv ((m:Int)/256) ((m:Int)%256) zv rfl);have O1:Hid (OwnB (w.alloc (.cells #[.int .u8 ((m:Int)/256),.int .u8 ((m:Int)%256)] 5)) w.heap.size (.slice (some ⟨w.heap.size,0,none⟩) 2 2) (hd2 p.length)):=by
  refine⟨?_,hd2_byte _⟩;have:=World.ownsRow_lit (base:=w.heap.size) (e:=5) (size:=1) w #[.int .u8 ((m:Int)/256),.int .u8 ((m:Int)%256)] 2 zl (by unfold maxLen;omega) rfl;have e2:vals (hd2 p.length)=[.int .u8 ((m:Int)/256),.int .u8 ((m:Int)%256)]:=by
   rw[<-hlp];simp only[vals,hd2,List.map_cons,List.map_nil,List.cons.injEq,and_true];exact⟨jgc zv,rfl⟩
  rw[e2];exact this
 have B1:=zh ((Below.refl w.heap.size w).alloc zl (.cells #[.int .u8 ((m:Int)/256),.int .u8 ((m:Int)%256)] 5));have HL:Hid ((hd2 p.length).length+p.length<=140737488355328):=by show _<=_;rw[hd2_length];omega
 have LP:=zh hlp;clear hlp;go_in;go_wp2_with(at_builtin;refine jan rfl (.tmp 13) (.tmp 14) rfl w.heap.size _ (hd2 p.length) rfl O1.o m d D p rfl (HP.o.on B1.o) HL.o B1.o.size ?_;intro v2 w2 ho2 hb2;have O2:=zh ho2;have B2:=zh (B1.o.trans hb2);clear ho2 hb2);obtain⟨A2,c2,rfl,hs2⟩:=O2.o.sl;have S2:=zh hs2;clear hs2;obtain⟨q,hq⟩:∃q,q=hd2 p.length++p:=zx;have Q:=zh hq;rw[<-hq]at S2 O2⊢;clear hq;have QL:Hid (q.length<=1002):=by show _<=_;rw[Q.o,zA,hd2_length,<-LP.o];omega
 have C4:=zh (jkv q.length c2 A2 q w2 S2.o.rd rfl S2.o.nil (by have:=QL.o;omega));go_wp2_with fail
 refine C4.o.mono ?_
 rintro e w4 ⟨g4,c4,rfl,ho4,hb4⟩;have O4:Hid (OwnB w4 w2.heap.size (.slice (some ⟨g4,0,none⟩) (q.length+4) c4) (fr p)):=by
  have e4:fr p=q++be4 (Crc.sum q):=by rw[Q.o];rfl
  have l4:(fr p).length=q.length+4:=by rw[e4,zA,jdp]
  refine⟨by rw[l4,e4];exact ho4,?_⟩;exact fr_byte HP.o.rd.1
 have B4:=zh (B2.o.trans (hb4.mono B2.o.size));clear hb4 ho4;go_wp2;go_ret;exact jep.mk (O4.o.lower B2.o.size) B4.o
def jdm(b p:List Nat)(w:World)(e:Ending)(w':World):Prop:=
 ∃A c,e= .returned (.tuple #[.slice A (putL b p).length c,.int .i64 ((putE p:Nat):Int)])/\Sl w' A (putL b p).length c (putL b p)/\(putE p=0->OwnB w' w.heap.size (.slice A (putL b p).length c) (putL b p))/\zF w w'
theorem jdm.same{b p:List Nat}{w:World}{A:Option Addr}{n c:Nat}{x:Int}(hs:Sl w A n c b)(hl:putL b p=b)(hx:x=(putE p:Nat))(h0:putE p≠0):jdm b p w (.returned (.tuple #[.slice A n c,.int .i64 x])) w:=by
 have hn:=hs.len;subst hn hx;unfold jdm;rw[hl];exact⟨A,c,rfl,hs,fun h=>absurd h h0,zD⟩
theorem jdm.mk{b p:List Nat}{w w':World}{v:Value}{x:Int}(h:OwnB w' w.heap.size v (putL b p))(hx:x=(putE p:Nat))(hb:zF w w'):jdm b p w (.returned (.tuple #[v,.int .i64 x])) w':=by
 obtain⟨A,c,rfl,hs⟩:=h.sl;subst hx;exact⟨A,c,rfl,hs,fun _=>h,hb⟩
theorem js2(n c m d:Nat)(A D:Option Addr)(b p:List Nat)(w:World)(hb:Sl w A n c b)(hp:Sl w D m d p)(hn:n<=900000000)(hm:m<=900000000):
  Calls Tryz.prog 87 #[.slice A n c,.slice D m d] w (jdm b p w):=by
 have hlp:=hp.len;have HB:=zh hb;have HP:=zh hp;clear hb hp;by_cases h0:m=0
 ·have HX:=zh (jie (b:=b) (p:=p) zv)
  subst h0;clear hlp;go_in;go_wp2;go_ret2;exact jdm.same HB.o HX.o.2 (by rw[HX.o.1];rfl) (by rw[HX.o.1];omega)
 ·have e0:((m:Int)==0)=false:=by rw[zq];omega
  by_cases h1:1000<m
  ·have HX:=zh (jmf (b:=b) (p:=p) zv)
   clear hlp h0;go_in;go_wp2;go_ret2;exact jdm.same HB.o HX.o.2 (by rw[HX.o.1];rfl) (by rw[HX.o.1];omega)
  ·have HX:=zh (jif (b:=b) (p:=p) zv zv)
   have LP:=zh hlp;have LB:Hid (n=b.length):=HB.o.len;have h1':m<=1000:=by omega
   have O0:=zh (OwnB.none_ w w.heap.size);have HL:Hid (([]:List Nat).length+b.length<=140737488355328):=by show _<=_;rw[<-LB.o];simp;omega
   clear hlp h0 h1;go_in;go_wp2_with(at_builtin;refine jan rfl (.tmp 15) (.tmp 16) rfl w.heap.size _ [] rfl O0.o n c A b rfl HB.o HL.o zl ?_;intro v2 w2 ho2 hb2;have O2:=zh ho2;have B2:=zh hb2;clear ho2 hb2);have C3:=zh (jvu m d D p w2 (HP.o.on B2.o) h1')
   refine C3.o.mono ?_
   rintro e w3 ⟨A3,c3,rfl,ho3,hb3⟩;have S3:=zh ho3.sls;clear ho3;have O3:=zh (O2.o.below hb3);have B3:=zh (B2.o.trans (hb3.mono B2.o.size));clear hb3;rw[List.nil_append]at O3;obtain⟨f,hf⟩:∃f,f=fr p:=zx;rw[<-hf]at S3⊢;have FF:=zh hf;clear hf;have HL3:Hid (b.length+f.length<=140737488355328):=by show _<=_;rw[FF.o,fr_length,<-LB.o,<-LP.o];omega
   clear C3;go_wp2_with(at_builtin;refine jan rfl (.tmp 18) (.tmp 20) rfl w.heap.size _ b rfl O3.o f.length c3 A3 f rfl S3.o HL3.o B3.o.size ?_;intro v4 w4 ho4 hb4;have O4:=zh ho4;have B4:=zh hb4;clear ho4 hb4);go_ret2;refine jdm.mk ?_ (by rw[HX.o.1];rfl) (B3.o.trans B4.o);rw[HX.o.2,<-FF.o];exact O4.o
theorem jov(w:World)(o1 o2:Obj):((w.alloc o1).alloc o2).heap[w.heap.size]? =some o1/\((w.alloc o1).alloc o2).heap[w.heap.size+1]? =some o2:=by
 refine⟨jah (heap_alloc_new w o1) (jkz _ o2),?_⟩;have:=heap_alloc_new (w.alloc o1) o2
 rwa [show(w.alloc o1).heap.size=w.heap.size+1 from by simp]at this
theorem jm7{d:Dk.St}(h:Dk.Okay d)(n c:Nat)(A:Option Addr)(p:List Nat)(w:World)(hs:Sl w A n c p)(hn:n<=900000000):
  Calls Tryz.prog 47 #[.agg #[.int .i64 (d.room:Nat),.string (tA d),.string (tB d)],.slice A n c] w (jl8 (Jn.app d p) (Jn.appE d p) w):=by
 obtain⟨o1,ho1⟩:∃o1,o1=Obj.cells #[.int .i64 (d.room:Nat),.string (tA d),.string (tB d)] 26:=zx;obtain⟨o2,ho2⟩:∃o2,o2=Obj.cells #[zi,.string ⟨#[]⟩,.string ⟨#[]⟩] 26:=zx;obtain⟨D1,E1⟩:=jov w o1 o2;have B1:=je9 w o1 o2;have C2:=zh (js2 0 0 n c none A [] p ((w.alloc o1).alloc o2) (Sl.none_ _) (hs.on B1) zv zv);rw[ho1,ho2]at C2 D1 E1 B1;have HD1:=zh D1;have HE1:=zh E1;have HB1:=zh B1;clear D1 E1 B1 ho1 ho2 o1 o2 hs hn;by_cases he:putE p=0
 ·have hL:putL [] p=fr p:=by
   unfold putE at he;split at he
   ·omega
   ·split at he
    ·omega
    ·unfold putL;rw[if_neg zv];simp
  have hA:Jn.app d p=Dk.write d (fr p)/\Jn.appE d p=Dk.writeE d (fr p):=by
   unfold Jn.app Jn.appE;rw[if_neg zv,if_neg zv];exact⟨rfl,rfl⟩
  have hfl:(fr p).length<=1000000000:=by
   rw[fr_length];unfold putE at he;split at he
   ·omega
   ·split at he
    ·omega
    ·omega
  rw[hA.1,hA.2];have CW:=zh (fun W=>qWrite h (fr p) hfl W);obtain⟨d',hd'⟩:∃d',d'=Dk.write d (fr p):=⟨_,rfl⟩;obtain⟨E,hE⟩:∃E,E=Dk.writeE d (fr p):=zx;rw[<-hd',<-hE]at CW⊢;clear hd' hE hA hfl h;unfold jdm at C2;rw[hL,he]at C2;clear hL he;generalize fr p=f at*;go_in;go_wp2_with fail
  refine C2.o.mono ?_
  rintro e w4 ⟨A4,c4,rfl,hs4,_,hb4⟩;have B4:=zh (HB1.o.trans (hb4.mono HB1.o.size));have E4:=zh (jah HE1.o hb4);obtain⟨f0,f1,f2,_,_,_⟩:=jf5 (jah HD1.o hb4);have hcv:=jo4 (c:=c4) hs4.rd rfl;clear hs4 hb4;go_wp2_with fail
  refine(CW.o _).mono ?_
  rintro e w5 ⟨rfl,hb5⟩;have B5:=zh (B4.o.trans (hb5.mono B4.o.size));have E5:=zh (jah E4.o hb5);obtain⟨r0,r1,r2,r3,r4,r5⟩:=jf5 E5.o;have E7:=zh (jjj E5.o (.int .i64 (d'.room:Nat)) (.string (tA d')) (.string (tB d')));obtain⟨t0,t1,t2⟩:=jmm E7.o;have B7:=zh (B5.o.grown (jhu _ (w.heap.size+1) (.int .i64 (d'.room:Nat)) (.string (tA d')) (.string (tB d'))) B5.o.size (fun i hi=>by injection hi with hi;omega))
  clear hb5 f0 f1 f2 hcv;go_wp2_with fail;exact bodyPost_ret (v:= .tuple #[.agg #[.int .i64 (d'.room:Nat),.string (tA d'),.string (tB d')],.int .i64 E]) (by simp[results,Tryz.results47,go_sem,t0,t1,t2]) rfl ⟨rfl,B7.o⟩
 ·have hA:Jn.app d p=d/\Jn.appE d p=(putE p:Nat):=by
   unfold Jn.app Jn.appE;rw[if_pos he,if_pos he];exact⟨rfl,rfl⟩
  rw[hA.1,hA.2];have hne:(((putE p:Nat):Int) !=0)=true:=by rw[bne_iff_ne];omega
  clear hA he h;unfold jdm at C2;obtain⟨q,hq⟩:∃q,q=(putL [] p).length:=zx;rw[<-hq]at C2;generalize putE p=x at*;clear hq;go_in;go_wp2_with fail
  refine C2.o.mono ?_
  rintro e w4 ⟨A4,c4,rfl,_,_,hb4⟩;have B4:=zh (HB1.o.trans (hb4.mono HB1.o.size));have E4:=zh (jah HE1.o hb4);obtain⟨f0,f1,f2,_,_,_⟩:=jf5 (jah HD1.o hb4);obtain⟨r0,r1,r2,r3,r4,r5⟩:=jf5 E4.o;have E7:=zh (jjj E4.o (.int .i64 (d.room:Nat)) (.string (tA d)) (.string (tB d)));obtain⟨t0,t1,t2⟩:=jmm E7.o;have B7:=zh (B4.o.grown (jhu _ (w.heap.size+1) (.int .i64 (d.room:Nat)) (.string (tA d)) (.string (tB d))) B4.o.size (fun i hi=>by injection hi with hi;omega))
  clear hb4;go_wp2_with fail;exact bodyPost_ret (v:= .tuple #[.agg #[.int .i64 (d.room:Nat),.string (tA d),.string (tB d)],.int .i64 (x:Nat)]) (by simp[results,Tryz.results47,go_sem,t0,t1,t2]) rfl ⟨rfl,B7.o⟩
end Go.Proofs.YtkinlcfhojjalaaGreatDoor
namespace Go.Proofs.YtkinlcfhojjalaaGreatDoor
open Go.RowKit Go.Deep Go.Maps
theorem jvv{T:Type}(l:List T)(o:Nat)(v:T)(h:o<l.length):(l.set o v).take (o+1)=l.take o++[v]:=by
 rw[List.take_succ_eq_append_getElem (by rw[List.length_set];exact h),List.getElem_set_self,List.take_set_of_le zl]
theorem jct(g:Nat)(t:TypeId):∀(vs:List Value) (o:Nat) (w:World) (l:List Value),w.heap[g]? =some (.cells l.toArray t (0,0))->o+vs.length<=l.length->
  (w.setCells g o vs).heap[g]? =some (.cells (l.take o++vs++l.drop (o+vs.length)).toArray t (0,0))
 |[],o,w,l,h,ho=>by
  show w.heap[g]? =_;rw[h,List.append_nil,List.length_nil,Nat.add_zero,List.take_append_drop]
 |v::vs,o,w,l,h,ho=>by
  rw[List.length_cons]at ho;have h1:=heap_setCell_same w g o _ t v h;rw[List.setIfInBounds_toArray]at h1;have h2:=jct g t vs (o+1) (w.setCell ⟨g,o,none⟩ v) (l.set o v) h1 (by rw[List.length_set];omega);rw[jvv l o v zv,List.drop_set_of_lt zv]at h2;have e:l.take o++[v]++vs++l.drop (o+1+vs.length)=l.take o++v::vs++l.drop (o+(v::vs).length):=by
   rw[List.length_cons,show o+1+vs.length=o+(vs.length+1)from by omega];simp
  rw[e]at h2;exact h2
namespace Ss
def cs(m R:Int)(A B:ByteArray)(l:Value)(b:Array Value):List Value:=[Value.int .i64 m,.int .i64 R,.string A,.string B,l]++b.toList
end Ss
structure SsAt(w:World)(g:Nat)(m R:Int)(A B:ByteArray)(l:Value)(s:Bk.St)(L V H:Value):Prop where
 row:w.heap[g]? =some (.cells (Ss.cs m R A B l (Bk.cells s L V H)).toArray 40 (0,0))
theorem jdn:Tryz.prog.underlying 40=some (.struct (Tryz.prog.fieldsOf 40)):=by kernel_rfl
theorem jek(m R:Int)(A B:ByteArray)(l:Value)(s:Bk.St)(L V H:Value):(Tryz.prog.info? 40).map (·.size)=some (Ss.cs m R A B l (Bk.cells s L V H)).toArray.size:=by kernel_rfl
def Ss.zeros:Array Value:=(Ss.cs 0 0 ⟨#[]⟩ ⟨#[]⟩ (.slice none 0 0) Bk.zeros).toArray
theorem jfm:∀w,(zeroValue 40).run Tryz.prog w= .ok (.agg Ss.zeros) w:=(zero_of_info (n:=79) zk).1
theorem jvw(s:Bk.St)(L V H:Value):(Tryz.prog.info? 38).map (·.size)=some (Bk.cells s L V H).toList.length:=by rw[Array.length_toList];exact jfd s L V H
section
variable{w w':World}{g:Nat}{m R:Int}{A B:ByteArray}{l:Value}{s:Bk.St}{L V H:Value}
theorem Ss.len:(Ss.cs m R A B l (Bk.cells s L V H)).length=79:=rfl
theorem SsAt.lt(h:SsAt w g m R A B l s L V H):g<w.heap.size:=(zg h.row).1
theorem SsAt.keep(h:SsAt w g m R A B l s L V H)(hk:w'.heap[g]? =w.heap[g]?):SsAt w' g m R A B l s L V H:=⟨hk.trans h.row⟩
theorem SsAt.on(h:SsAt w g m R A B l s L V H)(hb:zF w w'):SsAt w' g m R A B l s L V H:=h.keep (hb.block g h.lt)
theorem SsAt.cell(h:SsAt w g m R A B l s L V H)(k:Nat):w.cell? ⟨g,k,none⟩=(Ss.cs m R A B l (Bk.cells s L V H))[k]? :=by rw[cell_of_row w g k _ _ _ h.row,List.getElem?_toArray]
theorem SsAt.c4(h:SsAt w g m R A B l s L V H):w.cell? ⟨g,4,none⟩=some l:=h.cell 4
theorem SsAt.frz(h:SsAt w g m R A B l s L V H)(i:Nat):w.frozen? ⟨g,i,none⟩=false:=frozen_of_row w g i _ _ h.row
theorem SsAt.book(h:SsAt w g m R A B l s L V H):w.rangeAt g 5 (Bk.cells s L V H).toList:=fun j v hv=>by
 rw[h.cell];unfold Ss.cs;rw[List.getElem?_append_right (by simp)];simpa using hv
theorem SsAt.there(h:SsAt w g m R A B l s L V H){o n:Nat}(ho:o+n<=79):w.there g o n:=fun j hj=>by
 refine⟨?_,h.frz _⟩;rw[h.cell,List.getElem?_eq_getElem (by rw[Ss.len];omega)];rfl
theorem SsAt.new(w:World)(m R:Int)(A B:ByteArray)(l:Value)(s:Bk.St)(L V H:Value):SsAt (w.alloc (.cells (Ss.cs m R A B l (Bk.cells s L V H)).toArray 40)) w.heap.size m R A B l s L V H:=⟨heap_alloc_new w _⟩
theorem SsAt.setBook(h:SsAt w g m R A B l s L V H)(s2:Bk.St)(L2 V2 H2:Value):SsAt (w.setCells g 5 (Bk.cells s2 L2 V2 H2).toList) g m R A B l s2 L2 V2 H2:=⟨jct g _ _ 5 w _ h.row (by rw[Ss.len];exact Nat.le_refl 79)⟩
theorem SsAt.setDisk(h:SsAt w g m R A B l s L V H)(R2:Int)(A2 B2:ByteArray):SsAt (w.setCells g 1 [.int .i64 R2,.string A2,.string B2]) g m R2 A2 B2 l s L V H:=⟨jct g _ _ 1 w _ h.row (by rw[Ss.len];show 1+3<=79;omega)⟩
theorem SsAt.setRows(h:SsAt w g m R A B l s L V H)(l2:Value):SsAt (w.setCells g 4 [l2]) g m R A B l2 s L V H:=⟨jct g _ _ 4 w _ h.row (by rw[Ss.len];show 4+1<=79;omega)⟩
theorem Ss.one(hl:l.oneCell'=true)(hb:(Bk.cells s L V H).all (·.oneCell')=true):(Ss.cs m R A B l (Bk.cells s L V H)).toArray.all (·.oneCell')=true:=by
 rw[Array.all_eq_true_iff_forall_mem]at hb⊢;intro v hv;unfold Ss.cs at hv;rw[List.mem_toArray,List.mem_append]at hv;rcases hv with hv|hv
 ·simp only[List.mem_cons,List.not_mem_nil,or_false]at hv
  rcases hv with rfl|rfl|rfl|rfl|rfl
  ·rfl
  ·rfl
  ·rfl
  ·rfl
  ·exact hl
 ·exact hb v (by simpa using hv)
variable{ops:Array Oper}{rest:List Oper}{op:Oper}{a:Act}{Q:Exit->Act->World->Prop}
theorem jbq(hgd:op.guard=none)(x:Operand)(ho:op.op= .load 40 x)(hx:a.eval x= .pointer (some ⟨g,0,none⟩))(hg:SsAt w g m R A B l s L V H)
  (h:wpList Tryz.prog ops Q rest (a.put op.dst (.agg (Ss.cs m R A B l (Bk.cells s L V H)).toArray)) w):wpList Tryz.prog ops Q (op::rest) a w:=
 wpList_load_row hgd 40 x ho g hx 40 _ (0,0) _ hg.row jdn rfl (jek ..) h
theorem jby(hgd:op.guard=none)(x:Operand)(ho:op.op= .load 38 x)(hx:a.eval x= .pointer (some ⟨g,5,none⟩))(hg:SsAt w g m R A B l s L V H)
  (h:wpList Tryz.prog ops Q rest (a.put op.dst (.agg (Bk.cells s L V H))) w):wpList Tryz.prog ops Q (op::rest) a w:=
 wpList_load_mid hgd 38 x ho g 5 hx (Bk.cells s L V H).toList _ hg.book jex rfl (jvw s L V H) h
theorem jf1{s2:Bk.St}{L2 V2 H2:Value}(hgd:op.guard=none)(x y:Operand)(ho:op.op= .store 38 x y)(hx:a.eval x= .pointer (some ⟨g,5,none⟩))(hy:a.eval y= .agg (Bk.cells s2 L2 V2 H2))(hg:SsAt w g m R A B l s L V H)(h1:(Bk.cells s2 L2 V2 H2).all (·.oneCell')=true)
  (h:wpList Tryz.prog ops Q rest (a.put op.dst undef) (w.setCells g 5 (Bk.cells s2 L2 V2 H2).toList)):wpList Tryz.prog ops Q (op::rest) a w:=
 wpList_store_mid hgd 38 x y ho g 5 _ hx hy (hg.there (by show 5+74<=79;omega)) (jfd ..) h1 h
theorem jav{cs0:Array Value}(hgd:op.guard=none)(x y:Operand)(ho:op.op= .store 40 x y)(hx:a.eval x= .pointer (some ⟨g,0,none⟩))(hy:a.eval y= .agg (Ss.cs m R A B l (Bk.cells s L V H)).toArray)(hg:w.heap[g]? =some (.cells cs0 40 (0,0)))(hz:cs0.size=79)(h1:(Ss.cs m R A B l (Bk.cells s L V H)).toArray.all (·.oneCell')=true)
  (h:wpList Tryz.prog ops Q rest (a.put op.dst undef) (w.setRow g (Ss.cs m R A B l (Bk.cells s L V H)).toArray)):wpList Tryz.prog ops Q (op::rest) a w:=
 wpList_plain hgd fun _ hK=>wp_store_row 40 x y ho g _ hx hy 40 _ hg (jek ..) (by rw[hz];rfl) h1 (hK _ _ h)
theorem jow{fn:Func}{p:Tmp}(h:fn.results= #[.cell p 40])(tmps:Array Value)(hp:tmps.getD p undef= .pointer (some ⟨g,0,none⟩))(hg:SsAt w g m R A B l s L V H):
  (results fn tmps).run Tryz.prog w= .ok (.agg (Ss.cs m R A B l (Bk.cells s L V H)).toArray) w:=
 results_cell_row h tmps w g 40 _ (0,0) _ hp hg.row jdn rfl (jek ..)
theorem jel{fn:Func}{p u:Tmp}(h:fn.results= #[.cell p 40,.tmp u])(tmps:Array Value)(hp:tmps.getD p undef= .pointer (some ⟨g,0,none⟩))(hg:SsAt w g m R A B l s L V H):
  (results fn tmps).run Tryz.prog w= .ok (.tuple #[.agg (Ss.cs m R A B l (Bk.cells s L V H)).toArray,tmps.getD u undef]) w:=by
 rw[results_cell_tmp h,hp];have:=run_loadVar_row (P:=Tryz.prog) w g 40 40 _ (0,0) _ hg.row jdn rfl (jek ..);simp[asAddr,this,Result.andThen]
end
structure DdAt(w:World)(g:Nat)(d:Dk.St):Prop where
 row:w.heap[g]? =some (.cells #[.int .i64 (d.room:Nat),.string (tA d),.string (tB d)] 26 (0,0))
theorem jko:Tryz.prog.underlying 26=some (.struct (Tryz.prog.fieldsOf 26)):=by kernel_rfl
theorem ji5(x y z:Value):(Tryz.prog.info? 26).map (·.size)=some (#[x,y,z]:Array Value).size:=by kernel_rfl
section
variable{w w':World}{g:Nat}{d:Dk.St}
theorem DdAt.new(w:World)(d:Dk.St):DdAt (w.alloc (.cells #[.int .i64 (d.room:Nat),.string (tA d),.string (tB d)] 26)) w.heap.size d:=⟨heap_alloc_new w _⟩
theorem DdAt.lt(h:DdAt w g d):g<w.heap.size:=(zg h.row).1
theorem DdAt.on(h:DdAt w g d)(hb:zF w w'):DdAt w' g d:=⟨(hb.block g h.lt).trans h.row⟩
variable{ops:Array Oper}{rest:List Oper}{op:Oper}{a:Act}{Q:Exit->Act->World->Prop}
theorem jd7(hgd:op.guard=none)(x:Operand)(ho:op.op= .load 26 x)(hx:a.eval x= .pointer (some ⟨g,0,none⟩))(hg:DdAt w g d)
  (h:wpList Tryz.prog ops Q rest (a.put op.dst (.agg #[.int .i64 (d.room:Nat),.string (tA d),.string (tB d)])) w):wpList Tryz.prog ops Q (op::rest) a w:=
 wpList_load_row hgd 26 x ho g hx 26 _ (0,0) _ hg.row jko rfl (ji5 ..) h
theorem jcn(hgd:op.guard=none)(x y:Operand)(ho:op.op= .store 26 x y)(hx:a.eval x= .pointer (some ⟨w.heap.size,0,none⟩))(hy:a.eval y= .agg #[.int .i64 (d.room:Nat),.string (tA d),.string (tB d)])
  (h:wpList Tryz.prog ops Q rest (a.put op.dst undef) (w.alloc (.cells #[.int .i64 (d.room:Nat),.string (tA d),.string (tB d)] 26))):wpList Tryz.prog ops Q (op::rest) a (w.alloc (.cells #[zi,.string ⟨#[]⟩,.string ⟨#[]⟩] 26)):=
 wpList_plain hgd fun _ hK=>wp_store_row 26 x y ho w.heap.size #[.int .i64 (d.room:Nat),.string (tA d),.string (tB d)] hx hy 26 _ (heap_alloc_new w _) (ji5 ..) rfl (by simp[Value.oneCell']) (hK _ _ (by rw[World.setRow_alloc_new];exact h))
theorem jf2{m R:Int}{A B:ByteArray}{l:Value}{s:Bk.St}{L V H:Value}(hgd:op.guard=none)(x y:Operand)(ho:op.op= .store 26 x y)(hx:a.eval x= .pointer (some ⟨g,1,none⟩))(hy:a.eval y= .agg #[.int .i64 (d.room:Nat),.string (tA d),.string (tB d)])(hg:SsAt w g m R A B l s L V H)
  (h:wpList Tryz.prog ops Q rest (a.put op.dst undef) (w.setCells g 1 [.int .i64 (d.room:Nat),.string (tA d),.string (tB d)])):wpList Tryz.prog ops Q (op::rest) a w:=
 wpList_store_mid hgd 26 x y ho g 1 _ hx hy (hg.there (by show 1+3<=79;omega)) (ji5 ..) (by simp[Value.oneCell']) h
end
namespace So
def comE(m:Int)(R:Nat)(L:List Rc.R)(r:Rc.R):Int:=if Bk.chk (Bk.all m L) r=0 then(if Fits R L r then 0 else 4)else Bk.chk (Bk.all m L) r
def com(m:Int)(R:Nat)(L:List Rc.R)(r:Rc.R):List Rc.R:=if Bk.chk (Bk.all m L) r=0/\Fits R L r then L++[r]else L
def torE(m:Int)(R:Nat)(L:List Rc.R)(r:Rc.R):Int:=if Bk.chk (Bk.all m L) r=0 then(if Fits R L r then 13 else 4)else Bk.chk (Bk.all m L) r
def tor(m:Int)(R:Nat)(L:List Rc.R)(r:Rc.R)(keep:Int):List Rc.R:=if Bk.chk (Bk.all m L) r=0/\Fits R L r/\Kept r keep then L++[r]else L
theorem com_no{m:Int}{R:Nat}{L:List Rc.R}{r:Rc.R}(h:Bk.chk (Bk.all m L) r≠0):com m R L r=L/\comE m R L r=Bk.chk (Bk.all m L) r:=by unfold com comE;rw[if_neg (fun x=>h x.1),if_neg h];exact⟨rfl,rfl⟩
theorem com_full{m:Int}{R:Nat}{L:List Rc.R}{r:Rc.R}(h:Bk.chk (Bk.all m L) r=0)(hf:¬Fits R L r):com m R L r=L/\comE m R L r=4:=by unfold com comE;rw[if_neg (fun x=>hf x.2),if_pos h,if_neg hf];exact⟨rfl,rfl⟩
theorem com_fits{m:Int}{R:Nat}{L:List Rc.R}{r:Rc.R}(h:Bk.chk (Bk.all m L) r=0)(hf:Fits R L r):com m R L r=L++[r]/\comE m R L r=0:=by unfold com comE;rw[if_pos ⟨h,hf⟩,if_pos h,if_pos hf];exact⟨rfl,rfl⟩
theorem tor_no{m:Int}{R:Nat}{L:List Rc.R}{r:Rc.R}(k:Int)(h:Bk.chk (Bk.all m L) r≠0):tor m R L r k=L/\torE m R L r=Bk.chk (Bk.all m L) r:=by unfold tor torE;rw[if_neg (fun x=>h x.1),if_neg h];exact⟨rfl,rfl⟩
theorem tor_full{m:Int}{R:Nat}{L:List Rc.R}{r:Rc.R}(k:Int)(h:Bk.chk (Bk.all m L) r=0)(hf:¬Fits R L r):tor m R L r k=L/\torE m R L r=4:=by unfold tor torE;rw[if_neg (fun x=>hf x.2.1),if_pos h,if_neg hf];exact⟨rfl,rfl⟩
theorem tor_fits{m:Int}{R:Nat}{L:List Rc.R}{r:Rc.R}(k:Int)(h:Bk.chk (Bk.all m L) r=0)(hf:Fits R L r):tor m R L r k=(if Kept r k then L++[r]else L)/\torE m R L r=13:=by
 unfold tor torE;rw[if_pos h,if_pos hf];by_cases hk:Kept r k
 ·rw[if_pos ⟨h,hf,hk⟩,if_pos hk];exact⟨rfl,rfl⟩
 ·rw[if_neg (fun x=>hk x.2.2),if_neg hk];exact⟨rfl,rfl⟩
end So
theorem SA.rec{w0 W:World}{G:Nat->Prop}{p R:Nat}{m:Int}{L:List Rc.R}(h:SA w0 G p m R L W)(rc:Rc.R):SA w0 (fun i=>G i\/i=W.heap.size) p m R L (W.alloc (.cells (Rc.cells rc) 56)):=
 (h.more zE).less fun i hi=>hi.imp id fun e=>by rw[e];exact⟨zl,by simp⟩
theorem jfw{w0 W:World}{G:Nat->Prop}{p R:Nat}{m:Int}{L:List Rc.R}(h:SA w0 G p m R L W)(ht:BT w0){rc:Rc.R}(hr:Rc.In rc):
  Calls Tryz.prog 14 #[.pointer (some ⟨p,0,none⟩),.agg (Rc.cells rc)] W (SRes w0 G p m R (So.com m R L rc) (.int .i64 (So.comE m R L rc)) W):=by
 obtain⟨L2,hL2⟩:∃L2,L2=So.com m R L rc:=zx;obtain⟨E2,hE2⟩:∃E2,E2=So.comE m R L rc:=zx;rw[<-hL2,<-hE2];have HC:=zh (And.intro hL2 hE2);clear hL2 hE2;have HR:=zh hr;have HT:=zh ht;have TK:=zh h.took;have HRT:=zh h.right;obtain⟨g,hg⟩:∃g,g=W.heap.size:=zx;have h1:=h.rec rc;rw[<-hg]at h1;have O1:Hid (∀i,G i->(W.alloc (.cells (Rc.cells rc) 56)).heap[i]? =W.heap[i]?):=by
  obtain⟨_,r,q,b,X,h2,_⟩:=h;exact fun i hi=>((Below.refl W.heap.size W).alloc zl _).block i (h2.g i hi)
 have RA:Hid (RcAt (W.alloc (.cells (Rc.cells rc) 56)) g rc):=by rw[hg];exact RcAt.new W rc
 clear h hr ht;obtain⟨W1,hW1⟩:∃W1,W1=W.alloc (.cells (Rc.cells rc) 56):=zx;rw[<-hW1]at h1 O1 RA;obtain⟨_,r,q,b,X,hj,hk⟩:=h1;have J1:=zh hj;have K1:=zh hk;have CF:=zh (jkf hj hk (HT.o.on0 hj.below) rc HR.o);have EQ:Hid (Bk.chk (Bk.all m L) rc=0->Rc.right rc=true):=fun h0=>Bk.chk_right h0;clear hj hk;obtain⟨s,hs⟩:∃s,s=Bk.all m L:=zx;rw[<-hs]at CF K1 EQ;have HS:=zh hs;clear hs;go_enter_defers Tryz.func14,Tryz.ntmps14;go_upto_region 1 with fail
 rw[<-hW1];rw[<-hg];clear hW1 hg;obtain⟨ans,hans⟩:∃ans,ans=Bk.chk s rc:=zx;rw[<-hans]at CF EQ;have AN:=zh hans;clear hans;by_cases h0:ans=0
 ·have HZ:Hid (Bk.chk s rc=0):=AN.o.symm.trans h0
  have RT:=zh (EQ.o h0);subst h0;go_upto_region 4 with(first
   |((with_reducible show zL 10);refine zR (.tmp 3) RA.o ?_)
   |(go_at_call 35;refine CF.o.mono ?_;rintro e w2 ⟨A,n,c,rfl,hs,hb⟩;have J2:=zh (J1.o.on hb);have K2:=zh (jbf K1.o hb);have R2:=zh (RA.o.on hb);have O2:=zh (fun i (hi:G i)=>(hb.block i (J1.o.g i (.inl hi))).trans (O1.o i hi));have S2:=zh hs;clear hb hs CF J1 K1 O1 RA))
  have S3:=zh (S2.o (by trivial));clear S2;by_cases hf:So.Fits R L rc
  ·have HF:=zh hf
   have DF:=zh (So.disk_app (R:=R) RT.o HF.o);have CA:=zh (jjk J2.o.jrn J2.o.fresh S3.o (by rw[S3.o.len];have:=Rc.bytes_len RT.o;omega));have lq2:=J2.o.lt;have c12:=J2.o.cells.2.2.1;rw[DF.o.2]at CA;go_upto_region 7 with(go_at_call 36;refine CA.o.mono ?_;rintro e w3 ⟨rfl,hj,hk⟩;have J3:=zh (J2.o.turn hj hk);have K3:=zh (J2.o.book K2.o hk);have R3:Hid (RcAt w3 g rc):=⟨(J2.o.others hk g (.inr rfl)).trans R2.o.row⟩;have O3:=zh (fun i (hi:G i)=>(J2.o.others hk i (.inl hi)).trans (O2.o i hi));clear hj hk CA lq2 c12)
   obtain⟨d',hd'⟩:∃d',d'=Jn.app (So.disk R L) (Rc.bytes rc):=⟨_,rfl⟩;rw[<-hd']at J3 DF;clear hd';obtain⟨X',hX'⟩:∃X',X'=(fun i=>(X i\/w2.heap.size<=i)/\i<w3.heap.size):=⟨_,rfl⟩;rw[<-hX']at J3 K3;clear hX';refine wp_mono (h:=?_) (fun e a w (h:e=Exit.normal/\_)=>h.2);refine wp_region_held_drew (S:=fun V=>StJ w0 (fun i=>G i\/i=g) p m d' (.pointer (some ⟨b,0,none⟩)) r q X' V/\RcAt V g rc) zk ⟨J3.o.on zD.drew,R3.o.on zD.drew⟩ (fun hS=> ?_);refine jk2 0 (v:=?_) rfl zk (fun _ _ _ h=>nomatch h.1) rfl ?_ hS ?_
   rotate_left
   ·intro W hW;go_simp;(try with_reducible rfl)
   simp only[Act.put,zT,zO,zS];refine jk2 1 (v:=?_) rfl zk (fun _ _ _ h=>nomatch h.1) rfl ?_ hS ?_
   rotate_left
   ·intro W hW;go_simp;(try with_reducible rfl)
   simp only[Act.put,zT,zO,zS];refine jk2 2 (v:=?_) rfl zk (fun _ _ _ h=>nomatch h.1) rfl ?_ hS ?_
   rotate_left
   ·intro W hW;go_simp;(try with_reducible rfl)
   simp only[Act.put,zT,zO,zS];refine jk2 3 (v:=?_) rfl zk (fun _ _ _ h=>nomatch h.1) rfl ?_ hS ?_
   rotate_left
   ·intro W hW;have lq:=hW.1.lt;have c2:=hW.1.cells.2.2.2.1;go_simp;(try with_reducible rfl)
   simp only[Act.put,zT,zO,zS];refine jk2 4 (v:= .agg (Rc.cells rc)) rfl zk (fun _ _ _ h=>nomatch h.1) rfl (fun W hW=>jax (.tmp 3) rfl g rc rfl hW.2) hS ?_;simp only[Act.put,zT,zO,zS];refine rO 5 (fun K hK=> ?_);go_simp;refine hK.out _ _ hS (fun _=> ?_);clear hK K;try simp only[Act.put,zT,zO,zS]
   refine wpAnyH_done zk ?_ _;refine⟨rfl,?_⟩;have J7:=zh hS.1;have R7:=zh hS.2;clear hS;have K7:=zh (jbf K3.o (Below.refl w3.heap.size w3).drew);have O7:Hid (∀i,G i->w3.drew.heap[i]? =W.heap[i]?):=O3.o;clear J3 K3 R3 O3;generalize w3.drew=w7 at*;have CS:=zh (jSync_x J7.o.jrn J7.o.fresh);have lq7:=J7.o.lt;have c17:=J7.o.cells.2.2.1;go_wp2_with(go_at_call 38;refine CS.o.mono ?_;rintro e w8 ⟨rfl,hj,hk⟩;have J8:=zh (J7.o.turn hj hk);have K8:=zh (J7.o.book K7.o hk);have O8:=zh (fun i (hi:G i)=>(J7.o.others hk i (.inl hi)).trans (O7.o i hi));clear hj hk CS lq7 c17);rw[DF.o.1]at J8;have C:=So.com_fits (by rw[<-HS.o];exact HZ.o) HF.o;rw[<-HC.o.1,<-HC.o.2]at C;refine jh5 (by simp[go_sem]) (jl2 K8.o (HT.o.on0 J8.o.below) HR.o) ?_;rintro e w9 ⟨rfl,hb9,hk9⟩;have J9:=J8.o.kept hk9 (fun i hi hn=>hn hi) (jar hb9);rw[HS.o]at hb9;refine⟨_,rfl,_,results_tmp rfl _ _ _,by rw[C.2];rfl,?_,fun i hi=>(hk9.block i (J8.o.g i (.inl hi)) (fun hn=>hn (.inl (.inl hi)))).trans (O8.o i hi)⟩;rw[C.1];have e:Bk.app (Bk.all m L) rc=Bk.all m (L++[rc]):=(Bk.run_snoc _ _ _).symm;rw[e]at hb9;exact SA.less (F:=G) ⟨So.took_snoc TK.o (by rw[<-HS.o];exact HZ.o),r,q,b,_,J9,hb9⟩ (fun i hi=> .inl hi)
  ·have HF:=zh hf
   have DF:=zh (So.disk_full (R:=R) RT.o HF.o);have CA:=zh (jjk J2.o.jrn J2.o.fresh S3.o (by rw[S3.o.len];have:=Rc.bytes_len RT.o;omega));have lq2:=J2.o.lt;have c12:=J2.o.cells.2.2.1;rw[DF.o.1,DF.o.2]at CA;go_wp2_with(go_at_call 36;refine CA.o.mono ?_;rintro e w3 ⟨rfl,hj,hk⟩;have J3:=zh (J2.o.turn hj hk);have K3:=zh (J2.o.book K2.o hk);have R3:Hid (RcAt w3 g rc):=⟨(J2.o.others hk g (.inr rfl)).trans R2.o.row⟩;have O3:=zh (fun i (hi:G i)=>(J2.o.others hk i (.inl hi)).trans (O2.o i hi));clear hj hk CA lq2 c12);have C:=So.com_full (by rw[<-HS.o];exact HZ.o) HF.o;rw[<-HC.o.1,<-HC.o.2]at C;have K4:=K3.o;rw[HS.o]at K4;refine⟨_,results_tmp rfl _ _ _,by rw[C.2];rfl,?_,O3.o⟩;rw[C.1];exact SA.less (F:=G) ⟨TK.o,r,q,b,_,J3.o,K4⟩ (fun i hi=> .inl hi)
 ·have h1:(ans !=0)=true:=by simpa using h0
  go_wp2_with(first
   |((with_reducible show zL 10);refine zR (.tmp 3) RA.o ?_)
   |(go_at_call 35;refine CF.o.mono ?_;rintro e w2 ⟨A,n,c,rfl,hs,hb⟩;have J2:=zh (J1.o.on hb);have K2:=zh (jbf K1.o hb);have R2:=zh (RA.o.on hb);have O2:=zh (fun i (hi:G i)=>(hb.block i (J1.o.g i (.inl hi))).trans (O1.o i hi));have S2:=zh hs;clear hb hs CF J1 K1 O1 RA))
  have C:=So.com_no (R:=R) (L:=L) (m:=m) (r:=rc) (by rw[<-HS.o,<-AN.o];exact h0);rw[<-HC.o.1,<-HC.o.2,<-HS.o,<-AN.o]at C;have K4:=K2.o;rw[HS.o]at K4;refine⟨_,results_tmp rfl _ _ _,by rw[C.2];rfl,?_,O2.o⟩;rw[C.1];exact SA.less (F:=G) ⟨TK.o,r,q,b,_,J2.o,K4⟩ (fun i hi=> .inl hi)
theorem zzw{p:Prop}(h:p:=by
 rintro b ⟨A,n,c,o,he,hA,hn⟩;obtain⟨⟨A1,c1,e1,_⟩,⟨A2,c2,e2,_⟩,⟨A3,c3,e3,_⟩⟩:=h;rcases he with e|e|e
 ·rw[e1]at e;injection e with _ e _;have:(Bk.tl (Bk.new m)).length=0:=rfl;omega
 ·rw[e2]at e;injection e with _ e _;have:(Bk.new m).vs.length=0:=rfl;omega
 ·rw[e3]at e;injection e with _ e _;have:(Bk.new m).h.length=0:=rfl;omega):p:=h
theorem js3{w:World}{m:Int}{L V H:Value}(h:BkRd w (Bk.new m) L V H):∀b,¬jfl L V H b:=by
 exact zzw
theorem jox(room margin:Int)(w:World):Calls Tryz.prog 17 #[.int .i64 room,.int .i64 margin] w (fun e w'=>∃L V H,e= .returned (.agg (Ss.cs margin (Dk.fits room:Nat) ⟨#[]⟩ ⟨#[]⟩ (.slice none 0 0) (Bk.cells (Bk.new margin) L V H)).toArray)/\BkRd w' (Bk.new margin) L V H/\zF w w'):=by
 have hz:=jfm;have CD:=zh (fun W=>jvs room W);have CB:=zh (fun W=>jp8 margin W);go_in;go_upto_region 1 with fail
 obtain⟨g,hg⟩:∃g,g=w.heap.size:=zx;have Z:Hid ((w.alloc (.cells Ss.zeros 40)).heap[g]? =some (.cells Ss.zeros 40 (0,0))):=by rw[hg];exact heap_alloc_new w _
 have B1:Hid (zF w (w.alloc (.cells Ss.zeros 40))):=zE;have G1:Hid (w.heap.size<=g):=Nat.le_of_eq hg.symm;rw[<-hg];clear hg;generalize w.alloc (.cells Ss.zeros 40)=w1 at*
 go_wp2_with(first
  |(go_at_call 40;refine(CD.o _).mono ?_;rintro e w2 ⟨rfl,hb⟩;have Z:Hid (w2.heap[g]? =some (.cells Ss.zeros 40 (0,0))):=(hb.block g (zg Z.o).1).trans Z.o;have B1:=zh (B1.o.trans (hb.mono B1.o.size));clear hb)
  |(go_at_call 41;refine(CB.o _).mono ?_;rintro e w3 ⟨L,V,H,rfl,hrd,hb⟩;have RD:=zh hrd;have Z:Hid (w3.heap[g]? =some (.cells Ss.zeros 40 (0,0))):=(hb.block g (zg Z.o).1).trans Z.o;have B1:=zh (B1.o.trans (hb.mono B1.o.size));clear hb hrd)
  |((with_reducible show wpList _ _ _ ({dst:=some 10,op:= .build _ _,type:=_,pos:=_,after:=_,guard:=_}::_) _ _);refine jdk rfl 40 _ rfl (Ss.cs margin (Dk.fits room:Nat) ⟨#[]⟩ ⟨#[]⟩ (.slice none 0 0) (Bk.cells (Bk.new margin) L V H)).toArray zk ?_)
  |((with_reducible show zW);refine jav rfl (.tmp 4) (.tmp 10) rfl rfl rfl Z.o rfl (Ss.one (l:= .slice none 0 0) rfl RD.o.one) ?_))
 have hg:=ja6 w3 g (Ss.cs margin (Dk.fits room:Nat) ⟨#[]⟩ ⟨#[]⟩ (.slice none 0 0) (Bk.cells (Bk.new margin) L V H)).toArray;exact bodyPost_ret (v:= .agg _) (jow Tryz.results17 _ rfl ⟨setRow_heap _ g _ _ _ _ Z.o⟩) rfl ⟨L,V,H,rfl,jd3 RD.o hg (js3 RD.o _),B1.o.grown hg B1.o.size fun k e=>by injection e with e;exact e▸G1.o⟩
