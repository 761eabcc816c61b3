/- BookAll: for every input the statement's function returns true, and its arguments read afterwards as before. The library's tables that the row lists lie as the program's text lays them (tied); no other condition. -/
import Derived.Test.YtabandbigckfkaaGreatDoorTie
import Derived.Test.YtabandbigckfkaaGreatDoorCards
import Derived.ShutString
import Derived.ChangeOld
import Derived.LaidMore
import Derived.SevenTiedAt
import Derived.Deep.Matrix
import Derived.Test.YtabandbigckfkaaGreatDoorQa27
set_option maxHeartbeats 6400000
set_option maxRecDepth 100000
set_option linter.unusedSimpArgs false
set_option linter.unusedVariables false
namespace Go.Proofs.YtabandbigckfkaaGreatDoor.bookAll
open Go.ChangeShapes Go.WideShapes Go.ChangeAt Go.RowKit Go.Deep
open Go.ChangeMaps (open_string shut_string)
theorem own:ownKnob Tryz.prog.godebug=none:=by kernel_rfl
theorem laidOut:laidOutB Tryz.prog=true:=by kernel_rfl
theorem lifted(os:Os)(started:os.Started)(H:Type)(enc:TypeId×Value→H):
  ReturnsInHanded {} Tryz.checked os 10 .any (fun w args=>(Rows.bookAllSpec.pre enc Tryz.prog Tryz.f10 Rows.bookAllRow.domain false w args∧laidMetH Tryz.prog Rows.bookAllRow.laid w)∧sizedMet enc Tryz.prog Tryz.f10 (OpenSpec.ofChange Rows.bookAllSpec) false w args)
   (Rows.bookAllSpec.post enc Tryz.prog Tryz.f10 false true false false):=by
 refine jde (C:=Tryz.checked) (X:=fun w _=>laidMetH Tryz.prog Rows.bookAllRow.laid w) (fun _ _ _ hh h=>h.of_heap hh) own started (by kernel_rfl) Tryz.func10
  (ChangeSpec.witness_shaped (enc:=enc) (C:=Tryz.checked) (os:=os) (X:=fun w _=>laidMetH Tryz.prog Rows.bookAllRow.laid w) false (World.laidAll Tryz.prog os Rows.bookAllRow.laid) #[.int .i64 0,.slice none 0 0,.bool false] 8 (World.laidAll_os _ _ _)
   (World.shaped_of_ZipB (by kernel_rfl) (by kernel_rfl)) (by kernel_rfl) (by kernel_rfl) (by kernel_rfl)
   (by rw[MakeChecks.laidMetH_plain _ _ _ (by kernel_rfl)];exact laidMet_laidAll _ (by kernel_rfl) (by kernel_rfl))) ?_
 intro W base args ds gs before hval0 hW hL hsh;have TB:BT W:=tb_ofE hL hsh;have hval:∀(j:Nat) t v,Tryz.f10.params[j]? =some t→args[j]? =some v→Value.okWide Tryz.prog W .any base t v:=hval0;have hW':=hW;obtain⟨p,q,hA0,hV,rfl,hfz,hnd⟩:=hW;have hA:DataW.TrodAll enc Tryz.prog W 0 (fun _=>true) true Tryz.f10.params.toList args.toList ds p:=hA0;rw[Tryz.params10]at hA hval;obtain⟨v0,vs0,d0,ds0,p0,q0,hargs,rfl,rfl,h0,r0⟩:=trodAll_cons hA;obtain⟨v1,vs1,d1,ds1,p1,q1,rfl,rfl,rfl,h1,r1⟩:=trodAll_cons r0;obtain⟨v2,vs2,d2,ds2,p2,q2,rfl,rfl,rfl,h2,r2⟩:=trodAll_cons r1;obtain⟨rfl,rfl,rfl⟩:=trodAll_nil r2;obtain rfl:args= #[v0,v1,v2]:=by cases args;simp_all
 obtain⟨rfl,rfl⟩:=trodVars_none hV;obtain⟨a0,rfl,rfl,rfl,w0⟩:=open_int Tryz.underlying3 (hval 0 3 v0 rfl rfl) h0;obtain⟨a1,len1,cap1,rfl⟩:=okWide_slice Tryz.underlying28 (hval 1 28 v1 rfl rfl);have k1:=h1;have lt1:∀x∈p1,x.block<W.heap.size:=by obtain⟨m,hm⟩:=k1;exact DataW.trod_lt m _ _ _ hm
 obtain⟨l1,s1⟩:∃ts,SlF Bk.rcC W a1 len1 cap1 ts∧∀r∈ts,Rc.In r:=by
  obtain⟨fuel,hf⟩:=h1;exact recs_of hf
 obtain⟨a2,rfl,rfl,rfl⟩:=open_bool Tryz.underlying4 (hval 2 4 v2 rfl rfl) h2;clear hA0 hval0;refine(jhd a0 a1 len1 cap1 l1 s1.2 a2 W s1.1 TB).mono fun e W' ⟨he,bel⟩=> ?_;subst he;exact⟨_,rfl,_,_,_,[],_,[],hW',trodAll_mk1 (shut_bool Tryz.underlying4 _),(trodAll_cons_mk (shut_int Tryz.underlying3 w0) (trodAll_cons_mk (Below.trod laidOut (by kernel_rfl) (of_decide_eq_true (by kernel_rfl)) k1 bel lt1) (trodAll_cons_mk (shut_bool Tryz.underlying4 _) trodAll_mk0))),rfl,bel.frame _,fun h=>by cases h⟩
theorem factA:mapsRowed Tryz.prog=true:=by kernel_rfl
theorem factB:Tryz.prog.inPlace 10=Rows.bookAllRow.inPlace:=by kernel_rfl
theorem factC:Tryz.prog.unfollowed 10=true:=by kernel_rfl
theorem factD:Tryz.prog.recurses 10=true:=by unfold Go.Program.recurses;rw[factC];rfl
theorem factE:Tryz.prog.varsNamed 10=Rows.bookAllRow.named:=by kernel_rfl
theorem facts:joinedFacts Tryz.prog 10 Tryz.f10 Rows.bookAllSpec Rows.bookAllRow=true:=by
 unfold joinedFacts;rw[laidOut,factA,factB,factC,factD,factE]
 kernel_rfl
theorem over:Rows.bookAllRow.holds Tryz.pinned (OpenSpec.ofChange Rows.bookAllSpec):=
 OpenClaim.holds_of_wide 10 Tryz.f10 rfl rfl rfl rfl rfl rfl rfl ⟨rfl,rfl,rfl,rfl,rfl⟩ rfl rfl rfl rfl rfl (by kernel_rfl) Tryz.func10 facts
  (of_decide_eq_true (by kernel_rfl)) (by unfold Func.isWrapper;first|(rw[if_pos (by decide+kernel)];kernel_rfl)|(rw[if_neg (by decide+kernel)];exact⟨rfl,rfl⟩))
  (fun os started H enc _=>lifted os started H enc)
theorem cardA:Rows.bookAllRow.wfByText (OpenSpec.ofChange Rows.bookAllSpec)=true:=by kernel_rfl
theorem cardB:Tryz.prog.mainIs=some (true,("93ce36b71c697741151fc2e667110544396b296939fc760b8c82ff88397341bf").toList):=by kernel_rfl
theorem cardC:true=Tryz.prog.looks []:=by kernel_rfl
theorem cardD:false=Rows.bookAllRow.goesBy Tryz.prog:=by kernel_rfl
theorem cardE:([3,28,4].all fun u=> !Tryz.prog.wantsStandIn u)=true:=by kernel_rfl
theorem proved:Rows.BookAllCardSaid:=
 Claim7.holds_tied_plain_at .later [] [.data,.data,.data,.data,.data,.sentinel,.sentinel] true (true, "93ce36b71c697741151fc2e667110544396b296939fc760b8c82ff88397341bf") true over (fun _ h=>by cases h) cardA (fun _ h=>by cases h) bookAll_row_tie rfl ⟨rfl,rfl⟩ cardB rfl
  (fun f fn hf hfn=>by
   obtain rfl:f=10:=Option.some.inj ((show Tryz.prog.funcNamed Rows.bookAllRow.func=some 10 by kernel_rfl).symm.trans hf)|>.symm;obtain rfl:fn=Tryz.f10:=(Option.some.inj (Tryz.func10.symm.trans hfn)).symm;exact⟨cardC,fun j t ht=>by
    rw[Tryz.params10]at ht;have hm:t∈[3,28,4]:=by simpa using Array.mem_of_getElem? ht
    exact(show Tryz.prog.wantsStandIn t=false by simpa using List.all_eq_true.1 cardE t hm)⟩)
  cardD
end Go.Proofs.YtabandbigckfkaaGreatDoor.bookAll
