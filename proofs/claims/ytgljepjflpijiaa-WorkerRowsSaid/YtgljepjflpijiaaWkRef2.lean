/-
  The document's worker (layer 16): Count, Units. No condition but that its numbers may be.
-/
import Derived.Test.YtgljepjflpijiaaWkRef1
namespace Go.Proofs.Ytgljepjflpijiaa
open Go.RowKit Go.Deep
set_option linter.unusedSimpArgs false
set_option linter.unusedVariables false

set_option maxHeartbeats 3200000 in
theorem rwcount_any {s : Wk.W} (st : Int) (hm : 1 ≤ s.many ∧ s.many ≤ 16) (W : World) : Calls Try.prog 33 #[.agg (Wk.cells s), .int .i64 st] W (fun e w' => e = .returned (.int .i64 (Wk.count s st 16 : Nat)) ∧ Below W.heap.size W w') := by
  obtain ⟨g, W1, hW, hg, r0, b1⟩ := wk_box W s
  have HW := Lib.hid hW
  have HG := Lib.hid hg
  have B := Lib.hid b1
  have R := Lib.hid r0
  have CO := Lib.hid (fun (u : Int) (b : Bool) (h : b = true ↔ Wk.own s u) W => rwown_is (s := s) hm h W)
  clear hW hg b1 r0 hm
  go_enter Try.func33, Try.ntmps33
  go_upto_region 1 with fail
  rw [← HW.out, ← HG.out]
  go_wp2_with fail
  go_loopw [5, 6] (fun n i wr => ∃ j : Nat, n = .int .i64 (Wk.count s st j : Nat) ∧ i = .int .i64 j ∧ j ≤ 16 ∧ WkAt wr g s ∧ Below W.heap.size W wr) (fun _ i _ => 16 - (intOf i).toNat)
  case atStart => exact ⟨0, rfl, rfl, by omega, R.out, B.out⟩
  case round =>
    obtain ⟨j, rfl, rfl, hj, hr, hb⟩ := hrel
    clear R B
    have R := Lib.hid hr
    have B := Lib.hid hb
    clear hr hb
    by_cases hlt : j < 16
    · have EC : Hid (Wk.count s st (j + 1) = Wk.count s st j + if Wk.own s (j : Nat) ∧ (s.l j).st = st then 1 else 0) := rfl
      have hcb := Wk.count_le s st j
      obtain ⟨c, hc⟩ : ∃ c, c = Wk.count s st j := ⟨_, rfl⟩
      rw [← hc] at EC hcb ⊢
      clear hc
      have hw1 : wrap64 ((c : Int) + 1) = (c : Int) + 1 := IntWalk.wrap64_in _ ⟨by omega, by omega⟩
      have hw2 : wrap64 ((j : Int) + 1) = (j : Int) + 1 := IntWalk.wrap64_in _ ⟨by omega, by omega⟩
      by_cases ho : Wk.own s (j : Nat)
      · have CT := Lib.hid (CO.out (j : Nat) true (by simp [ho]))
        by_cases hs : (s.l j).st = st
        · rw [if_pos ⟨ho, hs⟩] at EC
          have e1 : ((s.l j).st == st) = true := by simpa using hs
          clear ho hs
          go_wp2_with (first
            | ((with_reducible show wpList _ _ _ ({ dst := some 12, op := .load _ _, type := _, pos := _, after := _, guard := _ } :: _) _ _); refine wpList_load_wk rfl (.tmp 2) rfl rfl R.out ?_)
            | (go_at_call 32; (with_reducible refine (CT.out _).mono ?_); rintro e w2 ⟨rfl, hb⟩; replace R := Lib.hid (R.out.on hb); replace B := Lib.hid (B.out.trans (hb.mono B.out.size)); clear hb; obtain ⟨d0, d1, d2, d3⟩ := R.out.slot hlt))
          exact ⟨⟨j + 1, by rw [EC.out]; go_num, by go_num, by omega, R.out, B.out⟩, by simp [intOf]; omega⟩
        · rw [if_neg (fun h => hs h.2)] at EC
          have e1 : ((s.l j).st == st) = false := by simpa using hs
          clear ho hs
          go_wp2_with (first
            | ((with_reducible show wpList _ _ _ ({ dst := some 12, op := .load _ _, type := _, pos := _, after := _, guard := _ } :: _) _ _); refine wpList_load_wk rfl (.tmp 2) rfl rfl R.out ?_)
            | (go_at_call 32; (with_reducible refine (CT.out _).mono ?_); rintro e w2 ⟨rfl, hb⟩; replace R := Lib.hid (R.out.on hb); replace B := Lib.hid (B.out.trans (hb.mono B.out.size)); clear hb; obtain ⟨d0, d1, d2, d3⟩ := R.out.slot hlt))
          exact ⟨⟨j + 1, by rw [EC.out]; rfl, by go_num, by omega, R.out, B.out⟩, by simp [intOf]; omega⟩
      · have CT := Lib.hid (CO.out (j : Nat) false (by simp [ho]))
        rw [if_neg (fun h => ho h.1)] at EC
        clear ho
        go_wp2_with (first
          | ((with_reducible show wpList _ _ _ ({ dst := some 12, op := .load _ _, type := _, pos := _, after := _, guard := _ } :: _) _ _); refine wpList_load_wk rfl (.tmp 2) rfl rfl R.out ?_)
          | (go_at_call 32; (with_reducible refine (CT.out _).mono ?_); rintro e w2 ⟨rfl, hb⟩; replace R := Lib.hid (R.out.on hb); replace B := Lib.hid (B.out.trans (hb.mono B.out.size)); clear hb))
        exact ⟨⟨j + 1, by rw [EC.out]; rfl, by go_num, by omega, R.out, B.out⟩, by simp [intOf]; omega⟩
    · obtain rfl : j = 16 := by omega
      go_wp2_with fail
      go_ret
      exact ⟨rfl, B.out⟩
theorem ownI_nil (w : World) (b : Nat) : OwnI w b (.slice none 0 0) [] := World.ownsRow_nil _ _ _ _
set_option maxHeartbeats 3200000 in
theorem rwunits_any {s : Wk.W} (hm : 1 ≤ s.many ∧ s.many ≤ 16) (W : World) : Calls Try.prog 34 #[.agg (Wk.cells s)] W (fun e w' => ∃ v, e = .returned v ∧ OwnI w' W.heap.size v (Wk.units s 16) ∧ Below W.heap.size W w') := by
  obtain ⟨g, W1, hW, hg, r0, b1⟩ := wk_box W s
  have HW := Lib.hid hW
  have HG := Lib.hid hg
  have B := Lib.hid b1
  have R := Lib.hid r0
  have CO := Lib.hid (fun (u : Int) (b : Bool) (h : b = true ↔ Wk.own s u) W => rwown_is (s := s) hm h W)
  have GL : Hid (g < W1.heap.size) := r0.cs.2.2.2
  have NB : Hid (W.heap.size ≤ g + 1) := by show _ ≤ _; omega
  clear hW hg b1 r0 hm
  go_enter Try.func34, Try.ntmps34
  go_upto_region 1 with fail
  rw [← HW.out, ← HG.out]
  go_wp2_with fail
  go_loopw [3, 4] (fun v i wr => ∃ j : Nat, i = .int .i64 j ∧ j ≤ 16 ∧ OwnI wr (g + 1) v (Wk.units s j) ∧ WkAt wr g s ∧ Below W.heap.size W wr) (fun _ i _ => 16 - (intOf i).toNat)
  case atStart => exact ⟨0, rfl, by omega, ownI_nil _ _, R.out, B.out⟩
  case round =>
    obtain ⟨j, rfl, hj, ho, hr, hb⟩ := hrel
    rename_i v wr
    clear R B
    have O := Lib.hid ho
    have R := Lib.hid hr
    have B := Lib.hid hb
    clear hr hb ho
    by_cases hlt : j < 16
    · have EU : Hid (Wk.units s (j + 1) = Wk.units s j ++ if Wk.own s (j : Nat) then [((j : Nat) : Int)] else []) := rfl
      have LU := Lib.hid (Wk.units_le s j)
      have hw2 : wrap64 ((j : Int) + 1) = (j : Int) + 1 := IntWalk.wrap64_in _ ⟨by omega, by omega⟩
      generalize Wk.units s j = l at *
      by_cases ho : Wk.own s (j : Nat)
      · have CT := Lib.hid (CO.out (j : Nat) true (by simp [ho]))
        rw [if_pos ho] at EU
        clear ho
        go_wp2_with (first
            | ((with_reducible show wpList _ _ _ ({ dst := some 10, op := .load _ _, type := _, pos := _, after := _, guard := _ } :: _) _ _); refine wpList_load_wk rfl (.tmp 1) rfl rfl R.out ?_)
            | (go_at_call 32; (with_reducible refine (CT.out _).mono ?_); rintro e w2 ⟨rfl, hb⟩; replace R := Lib.hid (R.out.on hb); replace O := Lib.hid (O.out.below hb); replace B := Lib.hid (B.out.trans (hb.mono B.out.size)); clear hb)
            | (at_builtin; refine wpList_append_num rfl (.tmp 14) (.tmp 16) rfl (g + 1) _ _ rfl O.out _ rfl (by have := LU.out; omega) (by have := R.out.cs.2.2.2; omega) ?_; intro v4 w4 ho4 hg4; have O4 := Lib.hid ho4; have B4 := Lib.hid (B.out.grown hg4 B.out.size (fun k hk => Nat.le_trans NB.out (own_base O.out k hk))); have R4 : Hid (WkAt w4 g s) := ⟨(hg4.block g R.out.cs.2.2.2 (fun e => by have := own_base O.out g e.symm; omega)).trans R.out.row⟩; clear ho4 hg4))
        exact ⟨⟨j + 1, by go_num, by omega, by rw [EU.out]; exact O4.out, R4.out, B4.out⟩, by simp [intOf]; omega⟩
      · have CT := Lib.hid (CO.out (j : Nat) false (by simp [ho]))
        rw [if_neg ho, List.append_nil] at EU
        clear ho
        go_wp2_with (first
            | ((with_reducible show wpList _ _ _ ({ dst := some 10, op := .load _ _, type := _, pos := _, after := _, guard := _ } :: _) _ _); refine wpList_load_wk rfl (.tmp 1) rfl rfl R.out ?_)
            | (go_at_call 32; (with_reducible refine (CT.out _).mono ?_); rintro e w2 ⟨rfl, hb⟩; replace R := Lib.hid (R.out.on hb); replace O := Lib.hid (O.out.below hb); replace B := Lib.hid (B.out.trans (hb.mono B.out.size)); clear hb))
        exact ⟨⟨j + 1, by go_num, by omega, by rw [EU.out]; exact O.out, R.out, B.out⟩, by simp [intOf]; omega⟩
    · obtain rfl : j = 16 := by omega
      go_wp2_with fail
      go_ret
      exact ⟨_, rfl, own_lower O.out NB.out, B.out⟩
end Go.Proofs.Ytgljepjflpijiaa
