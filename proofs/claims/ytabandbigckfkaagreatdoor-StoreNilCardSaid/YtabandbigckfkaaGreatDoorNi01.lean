/- StoreNil: for every input the statement's function returns true, and its arguments read afterwards as before. The library's tables that the row lists lie as the program's text lays them (tied); no other condition. -/
import Derived.Test.YtabandbigckfkaaGreatDoorQt28
import Derived.Test.YtabandbigckfkaaGreatDoorRows
import Derived.Test.YtabandbigckfkaaGreatDoorTie
import Derived.Test.YtabandbigckfkaaGreatDoorCards
import Derived.WalkKit
import Derived.ProofKit
import Derived.OpenShut
import Derived.ShutString
import Derived.ChangeOld
import Derived.Below
import Derived.LaidMore
import Derived.Lay
import Derived.SevenTiedAt
import Derived.Deep.Matrix
set_option maxHeartbeats 6400000
set_option maxRecDepth 100000
set_option linter.unusedSimpArgs false
set_option linter.unusedVariables false
namespace Go.Proofs.YtabandbigckfkaaGreatDoor
open Go.RowKit Go.Deep Go.Maps
theorem stcompact_none(W:World):Calls Tryz.prog 19 #[.pointer none] W (BRet (.int .i64 0) W):=by
 go_enter Tryz.func19,Tryz.ntmps19;go_wp2_with fail;go_ret;exact⟨rfl,Below.refl _ _⟩
theorem stbook_none(W:World):Calls Tryz.prog 27 #[.pointer none] W (BRet (.pointer none) W):=by
 go_enter Tryz.func27,Tryz.ntmps27;go_wp2_with fail;go_ret;exact⟨rfl,Below.refl _ _⟩
theorem strecords_none(W:World):Calls Tryz.prog 30 #[.pointer none] W (BRet (.slice none 0 0) W):=by
 go_enter Tryz.func30,Tryz.ntmps30;go_wp2_with fail;go_ret;exact⟨rfl,Below.refl _ _⟩
theorem stlen_none(W:World):Calls Tryz.prog 35 #[.pointer none] W (BRet (.int .i64 0) W):=by
 go_enter Tryz.func35,Tryz.ntmps35;go_wp2_with fail;go_ret;exact⟨rfl,Below.refl _ _⟩
theorem stroom_none(W:World):Calls Tryz.prog 36 #[.pointer none] W (BRet (.int .i64 0) W):=by
 go_enter Tryz.func36,Tryz.ntmps36;go_wp2_with fail;go_ret;exact⟨rfl,Below.refl _ _⟩
theorem stbytes_none(W:World):Calls Tryz.prog 21 #[.pointer none] W (BRet (.slice none 0 0) W):=by
 go_enter Tryz.func21,Tryz.ntmps21;go_wp2_with fail;go_ret;exact⟨rfl,Below.refl _ _⟩
theorem stcommit_none(W:World)(rc:Rc.R):Calls Tryz.prog 23 #[.pointer none,.agg (Rc.cells rc)] W (BRet (.int .i64 1) W):=by
 obtain⟨g,hg⟩:∃g,g=W.heap.size:=⟨_,rfl⟩;obtain⟨W1,hW1⟩:∃W1,W1=W.alloc (.cells (Rc.cells rc) 45):=⟨_,rfl⟩;have B1:Hid (Below W.heap.size W W1):=by rw[hW1];exact(Below.refl _ _).alloc (Nat.le_refl _) _
 have RA:Hid (RcAt W1 g rc):=by rw[hW1,hg];exact RcAt.new W rc
 have CF:=zh (stfit_none W1 rc);go_enter_defers Tryz.func23,Tryz.ntmps23;go_upto_region 1 with fail
 rw[←hW1];rw[←hg];clear hW1 hg
 go_wp2_with(first
  |((with_reducible show zL 10);refine zR (.tmp 3) RA.out ?_)
  |(go_at_call 50;(with_reducible refine CF.out.mono ?_);rintro e w2 ⟨rfl,hb⟩;have B2:=zh hb;clear hb CF))
 exact⟨_,results_tmp rfl _ _ _,rfl,B1.out.trans (B2.out.mono B1.out.size)⟩
theorem sttorn_none(W:World)(rc:Rc.R)(keep:Int):Calls Tryz.prog 17 #[.pointer none,.agg (Rc.cells rc),.int .i64 keep] W (BRet (.int .i64 1) W):=by
 obtain⟨g,hg⟩:∃g,g=W.heap.size:=⟨_,rfl⟩;obtain⟨W1,hW1⟩:∃W1,W1=W.alloc (.cells (Rc.cells rc) 45):=⟨_,rfl⟩;have B1:Hid (Below W.heap.size W W1):=by rw[hW1];exact(Below.refl _ _).alloc (Nat.le_refl _) _
 have RA:Hid (RcAt W1 g rc):=by rw[hW1,hg];exact RcAt.new W rc
 have CF:=zh (stfit_none W1 rc);go_enter_defers Tryz.func17,Tryz.ntmps17;go_upto_region 1 with fail
 rw[←hW1];rw[←hg];clear hW1 hg
 go_wp2_with(first
  |((with_reducible show zL 11);refine zR (.tmp 4) RA.out ?_)
  |(go_at_call 50;(with_reducible refine CF.out.mono ?_);rintro e w2 ⟨rfl,hb⟩;have B2:=zh hb;clear hb CF))
 exact⟨_,results_tmp rfl _ _ _,rfl,B1.out.trans (B2.out.mono B1.out.size)⟩
end Go.Proofs.YtabandbigckfkaaGreatDoor
namespace Go.Proofs.YtabandbigckfkaaGreatDoor
open Go.RowKit Go.Deep Go.Maps
theorem storenil_walk(rc:Rc.R)(n:Int)(W:World)(ht:BT W):Calls Tryz.prog 9 #[.agg (Rc.cells rc),.int .i64 n] W (BRet (.bool true) W):=by
 obtain⟨g,hg⟩:∃g,g=W.heap.size:=⟨_,rfl⟩;obtain⟨W1,hW1⟩:∃W1,W1=W.alloc (.cells (Rc.cells rc) 45):=⟨_,rfl⟩;have hb1:Below W.heap.size W W1:=by rw[hW1];exact(Below.refl _ _).alloc (Nat.le_refl _) _
 have TL:Hid (BT W1):=ht.on hb1;have S:Hid (Below W.heap.size W W1∧RcAt W1 g rc):=⟨hb1,by rw[hW1,hg];exact RcAt.new W rc⟩;have CL:=zh (fun w (h:BT w)=>slives_any w h);clear ht hb1;go_enter Tryz.func9,Tryz.ntmps9;go_upto_region 1 with fail
 rw[←hW1];rw[←hg];clear hW1 hg
 go_wp2_with(first
  |((with_reducible show zL 9);refine zR (.tmp 2) S.out.2 ?_)
  |((with_reducible show zL 14);refine ja8 (by rfl) 45 (.tmp 2) rfl g rfl 45 _ (0,0) _ S.out.2.row jaf rfl (jai rc) ?_)
  |(go_at_call 11;(with_reducible refine(CL.out _ TL.out).mono ?_);rintro e w1 ⟨rfl,hb⟩;have S:=zh (And.intro (S.out.1.trans (hb.mono S.out.1.size)) (S.out.2.on hb));clear hb)
  |(go_at_call 23;(with_reducible refine(stcommit_none _ rc).mono ?_);rintro e w2 ⟨rfl,hb⟩;have S:=zh (And.intro (S.out.1.trans (hb.mono S.out.1.size)) (S.out.2.on hb));clear hb)
  |(go_at_call 17;(with_reducible refine(sttorn_none _ rc n).mono ?_);rintro e w2 ⟨rfl,hb⟩;have S:=zh (And.intro (S.out.1.trans (hb.mono S.out.1.size)) (S.out.2.on hb));clear hb)
  |(go_at_call 19;(with_reducible refine(stcompact_none _).mono ?_);rintro e w2 ⟨rfl,hb⟩;have S:=zh (And.intro (S.out.1.trans (hb.mono S.out.1.size)) (S.out.2.on hb));clear hb)
  |(go_at_call 27;(with_reducible refine(stbook_none _).mono ?_);rintro e w2 ⟨rfl,hb⟩;have S:=zh (And.intro (S.out.1.trans (hb.mono S.out.1.size)) (S.out.2.on hb));clear hb)
  |(go_at_call 30;(with_reducible refine(strecords_none _).mono ?_);rintro e w2 ⟨rfl,hb⟩;have S:=zh (And.intro (S.out.1.trans (hb.mono S.out.1.size)) (S.out.2.on hb));clear hb)
  |(go_at_call 35;(with_reducible refine(stlen_none _).mono ?_);rintro e w2 ⟨rfl,hb⟩;have S:=zh (And.intro (S.out.1.trans (hb.mono S.out.1.size)) (S.out.2.on hb));clear hb)
  |(go_at_call 36;(with_reducible refine(stroom_none _).mono ?_);rintro e w2 ⟨rfl,hb⟩;have S:=zh (And.intro (S.out.1.trans (hb.mono S.out.1.size)) (S.out.2.on hb));clear hb)
  |(go_at_call 21;(with_reducible refine(stbytes_none _).mono ?_);rintro e w2 ⟨rfl,hb⟩;have S:=zh (And.intro (S.out.1.trans (hb.mono S.out.1.size)) (S.out.2.on hb));clear hb))
 go_ret;exact⟨rfl,S.out.1⟩
end Go.Proofs.YtabandbigckfkaaGreatDoor
namespace Go.Proofs.YtabandbigckfkaaGreatDoor.storeNil
open Go.ChangeShapes Go.WideShapes Go.ChangeAt Go.RowKit Go.Deep
open Go.ChangeMaps (open_string shut_string)
theorem own:ownKnob Tryz.prog.godebug=none:=by kernel_rfl
theorem laidOut:laidOutB Tryz.prog=true:=by kernel_rfl
theorem lifted(os:Os)(started:os.Started)(H:Type)(enc:TypeId×Value→H):
  ReturnsInHanded {} Tryz.checked os 9 .any (fun w args=>(Rows.storeNilSpec.pre enc Tryz.prog Tryz.f9 Rows.storeNilRow.domain false w args∧laidMetH Tryz.prog Rows.storeNilRow.laid w)∧sizedMet enc Tryz.prog Tryz.f9 (OpenSpec.ofChange Rows.storeNilSpec) false w args)
   (Rows.storeNilSpec.post enc Tryz.prog Tryz.f9 false true false false):=by
 refine ji7 (C:=Tryz.checked) (X:=fun w _=>laidMetH Tryz.prog Rows.storeNilRow.laid w) (fun _ _ _ hh h=>h.of_heap hh) own started (by kernel_rfl) Tryz.func9
  (ChangeSpec.witness_shaped (enc:=enc) (C:=Tryz.checked) (os:=os) (X:=fun w _=>laidMetH Tryz.prog Rows.storeNilRow.laid w) false (World.laidAll Tryz.prog os Rows.storeNilRow.laid) #[.agg #[.int .i64 0,.int .i64 0,.int .i64 0,.int .i64 0,.int .i64 0,.string ⟨#[]⟩,.int .i64 0,.int .i64 0,.int .i64 0,.int .i64 0,.int .i64 0,.int .i64 0,.int .i64 0,.int .i64 0,.int .i64 0,.int .i64 0,.int .i64 0,.int .i64 0],.int .i64 0] 8 (World.laidAll_os _ _ _)
   (World.shaped_of_ZipB (by kernel_rfl) (by kernel_rfl)) (by kernel_rfl) (by kernel_rfl) (by kernel_rfl)
   (by rw[MakeChecks.laidMetH_plain _ _ _ (by kernel_rfl)];exact laidMet_laidAll _ (by kernel_rfl) (by kernel_rfl))) ?_
 intro W base args ds gs before hval0 hW hL hsh;have TB:BT W:=tb_ofE hL hsh;have hval:∀(j:Nat) t v,Tryz.f9.params[j]? =some t→args[j]? =some v→Value.okWide Tryz.prog W .any base t v:=hval0;have hW':=hW;obtain⟨p,q,hA0,hV,rfl,hfz,hnd⟩:=hW;have hA:DataW.TrodAll enc Tryz.prog W 0 (fun _=>true) true Tryz.f9.params.toList args.toList ds p:=hA0;rw[Tryz.params9]at hA hval;obtain⟨v0,vs0,d0,ds0,p0,q0,hargs,rfl,rfl,h0,r0⟩:=trodAll_cons hA;obtain⟨v1,vs1,d1,ds1,p1,q1,rfl,rfl,rfl,h1,r1⟩:=trodAll_cons r0;obtain⟨rfl,rfl,rfl⟩:=trodAll_nil r1;obtain rfl:args= #[v0,v1]:=by cases args;simp_all
 obtain⟨rfl,rfl⟩:=trodVars_none hV;have k0:=h0;have lt0:∀x∈p0,x.block<W.heap.size:=by obtain⟨m,hm⟩:=k0;exact DataW.trod_lt m _ _ _ hm
 obtain⟨s0,rfl,i0⟩:=open_rec (hval 0 45 v0 rfl rfl);obtain⟨a1,rfl,rfl,rfl,w1⟩:=open_int Tryz.underlying3 (hval 1 3 v1 rfl rfl) h1;clear hA0 hval0;refine(storenil_walk s0 a1 W TB).mono fun e W' ⟨he,bel⟩=> ?_;subst he;exact⟨_,rfl,_,_,_,[],_,[],hW',trodAll_mk1 (shut_bool Tryz.underlying4 _),(trodAll_cons_mk (Below.trod laidOut (by kernel_rfl) (of_decide_eq_true (by kernel_rfl)) k0 bel lt0) (trodAll_cons_mk (shut_int Tryz.underlying3 w1) trodAll_mk0)),rfl,bel.frame _,fun h=>by cases h⟩
theorem factA:mapsRowed Tryz.prog=true:=by kernel_rfl
theorem factB:Tryz.prog.inPlace 9=Rows.storeNilRow.inPlace:=by kernel_rfl
theorem factC:Tryz.prog.unfollowed 9=true:=by kernel_rfl
theorem factD:Tryz.prog.recurses 9=true:=by unfold Go.Program.recurses;rw[factC];rfl
theorem factE:Tryz.prog.varsNamed 9=Rows.storeNilRow.named:=by kernel_rfl
theorem facts:joinedFacts Tryz.prog 9 Tryz.f9 Rows.storeNilSpec Rows.storeNilRow=true:=by
 unfold joinedFacts;rw[laidOut,factA,factB,factC,factD,factE]
 kernel_rfl
theorem over:Rows.storeNilRow.holds Tryz.pinned (OpenSpec.ofChange Rows.storeNilSpec):=
 OpenClaim.holds_of_wide 9 Tryz.f9 rfl rfl rfl rfl rfl rfl rfl ⟨rfl,rfl,rfl,rfl,rfl⟩ rfl rfl rfl rfl rfl (by kernel_rfl) Tryz.func9 facts
  (of_decide_eq_true (by kernel_rfl)) (by unfold Func.isWrapper;first|(rw[if_pos (by decide+kernel)];kernel_rfl)|(rw[if_neg (by decide+kernel)];exact⟨rfl,rfl⟩))
  (fun os started H enc _=>lifted os started H enc)
theorem cardA:Rows.storeNilRow.wfByText (OpenSpec.ofChange Rows.storeNilSpec)=true:=by kernel_rfl
theorem cardB:Tryz.prog.mainIs=some (true,("93ce36b71c697741151fc2e667110544396b296939fc760b8c82ff88397341bf").toList):=by kernel_rfl
theorem cardC:true=Tryz.prog.looks []:=by kernel_rfl
theorem cardD:false=Rows.storeNilRow.goesBy Tryz.prog:=by kernel_rfl
theorem cardE:([45,3].all fun u=> !Tryz.prog.wantsStandIn u)=true:=by kernel_rfl
theorem proved:Rows.StoreNilCardSaid:=
 Claim7.holds_tied_plain_at .later [] [.data,.data,.data,.data,.data,.sentinel,.sentinel] true (true, "93ce36b71c697741151fc2e667110544396b296939fc760b8c82ff88397341bf") true over (fun _ h=>by cases h) cardA (fun _ h=>by cases h) storeNil_row_tie rfl ⟨rfl,rfl⟩ cardB rfl
  (fun f fn hf hfn=>by
   obtain rfl:f=9:=Option.some.inj ((show Tryz.prog.funcNamed Rows.storeNilRow.func=some 9 by kernel_rfl).symm.trans hf)|>.symm;obtain rfl:fn=Tryz.f9:=(Option.some.inj (Tryz.func9.symm.trans hfn)).symm;exact⟨cardC,fun j t ht=>by
    rw[Tryz.params9]at ht;have hm:t∈[45,3]:=by simpa using Array.mem_of_getElem? ht
    exact(show Tryz.prog.wantsStandIn t=false by simpa using List.all_eq_true.1 cardE t hm)⟩)
  cardD
end Go.Proofs.YtabandbigckfkaaGreatDoor.storeNil
