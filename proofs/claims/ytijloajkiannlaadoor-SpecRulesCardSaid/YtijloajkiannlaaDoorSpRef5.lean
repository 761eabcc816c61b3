/-
  The document's package of layer 7: a number's digits read.
-/
import Derived.Test.YtijloajkiannlaaDoorSpRef1
namespace Go.Proofs.YtijloajkiannlaaDoor
open Go.RowKit
set_option linter.unusedSimpArgs false

theorem byte_run (l : List Nat) (hb : ∀ x ∈ l, x < 256) (j : Nat) (hj : j < l.length) (W : World) : (Instr.index 9 (.string (txt l)) (.int .i64 (j : Int))).run Tryd.prog W = .ok (.int .u8 (l.getD j 0 : Nat)) W := by
  have hz := txt_size l
  have hjt : j < (txt l).data.toList.length := by rw [txt_list, List.length_map]; exact hj
  have e : ((txt l).data.toList[j]'hjt).toNat = l.getD j 0 := by
    have h1 : (txt l).data.toList[j]? = (l.map fun x => UInt8.ofNat x)[j]? := by rw [txt_list]
    rw [List.getElem?_eq_getElem hjt, List.getElem?_map, List.getElem?_eq_getElem hj, Option.map_some] at h1
    injection h1 with h1
    rw [h1, getD_at hj]
    have := hb _ (List.getElem_mem hj)
    simp; omega
  have hs : (0 : Int) ≤ (j : Int) ∧ (j : Int) < ((txt l).size : Int) := ⟨by omega, by rw [hz]; omega⟩
  rw [run_index_string (P := Tryd.prog) W 9 (txt l) .i64 (j : Int) Tryd.underlying9, dif_pos hs, ← e]
  rfl
theorem byte_run0 (l : List Nat) (hb : ∀ x ∈ l, x < 256) (hj : 0 < l.length) (W : World) : (Instr.index 9 (.string (txt l)) (.int .i64 0)).run Tryd.prog W = .ok (.int .u8 (l.getD 0 0 : Nat)) W := byte_run l hb 0 hj W
/-- So far. -/
def numA (l : List Nat) (f j : Nat) : Int := Spc.acc ((l.drop f).take (j - f)) 0
theorem numA_in (l : List Nat) (hb : ∀ x ∈ l, x < 256) (f j : Nat) (hj : j ≤ f + 10) : -300000000000 ≤ numA l f j ∧ numA l f j ≤ 300000000000 := by
  have h := Spc.acc_bound ((l.drop f).take (j - f)) (fun x hx => hb x (List.mem_of_mem_drop (List.mem_of_mem_take hx)))
  have hl : ((l.drop f).take (j - f)).length ≤ 10 := by rw [List.length_take]; omega
  have hp : (10 : Int) ^ ((l.drop f).take (j - f)).length ≤ 10000000000 := by
    have : (10 : Nat) ^ ((l.drop f).take (j - f)).length ≤ 10 ^ 10 := Nat.pow_le_pow_right (by omega) hl
    have h2 : ((10 ^ ((l.drop f).take (j - f)).length : Nat) : Int) ≤ ((10 ^ 10 : Nat) : Int) := Int.ofNat_le.2 this
    rw [Int.natCast_pow] at h2
    simpa using h2
  unfold numA
  generalize (10 : Int) ^ ((l.drop f).take (j - f)).length = q at *
  omega
theorem numA_next (l : List Nat) (f j : Nat) (hf : f ≤ j) (hj : j < l.length) : numA l f (j + 1) = 10 * numA l f j + (l.getD j 0 : Nat) - 48 := by
  unfold numA
  have e : (l.drop f).take (j + 1 - f) = (l.drop f).take (j - f) ++ [l.getD j 0] := by
    rw [show j + 1 - f = (j - f) + 1 by omega, take_snoc (l.drop f) (j - f) (by rw [List.length_drop]; omega)]
    congr 2
    rw [List.getD_eq_getElem?_getD, List.getElem?_drop, List.getD_eq_getElem?_getD, show f + (j - f) = j by omega]
  rw [e, Spc.acc_snoc]
theorem numA_end (l : List Nat) (f j : Nat) (h : j = l.length ∨ j = f + 10) (hf : f ≤ l.length) (hj : j ≤ f + 10) : numA l f j = Spc.acc ((l.drop f).take 10) 0 := by
  unfold numA
  congr 1
  rcases h with rfl | rfl
  · by_cases h10 : l.length - f ≤ 10
    · rw [List.take_of_length_le (by rw [List.length_drop]; omega), List.take_of_length_le (by rw [List.length_drop]; omega)]
    · omega
  · rw [show f + 10 - f = 10 by omega]
def NPost7 (l : List Nat) (w : World) (e : Ending) (w' : World) : Prop := e = .returned (.tuple #[.int .i64 (Spc.numV l), .bool (Spc.numB l)]) ∧ w' = w
set_option maxHeartbeats 3200000 in
theorem rnumber_any (l : List Nat) (hb : ∀ x ∈ l, x < 256) (hl : l.length ≤ 1000) (w : World) : Calls Tryd.prog 21 #[.string (txt l)] w (NPost7 l w) := by
  have HB := Lib.hid hb
  have hz := txt_size l
  have HX : Hid (∀ j, j < l.length → ∀ W, (Instr.index 9 (.string (txt l)) (.int .i64 (j : Int))).run Tryd.prog W = .ok (.int .u8 (l.getD j 0 : Nat)) W) := fun j hj W => byte_run l hb j hj W
  have HD : Hid (∀ n W, Spc.i64 n → Calls Tryd.prog 29 #[.int .i64 n] W fun e w' => e = .returned (.string (txt (Spc.digs n))) ∧ w' = W) := fun n W h => rdigs_any n h W
  have HQ : Hid (∀ n, ((txt (Spc.digs n)).toList == (txt l).toList) = decide (Spc.digs n = l)) := fun n => txt_eq (fun x hx => (Spc.digs_byte n x hx).1) hb
  have HN : Hid (Spc.numB l = (decide (l.length ≤ Spc.from_ l + 9) && decide (Spc.digs (Spc.numV l) = l))) := rfl
  by_cases h0 : 0 < l.length
  · by_cases h45 : l.getD 0 0 = 45
    · have hx0 : ∀ W, (Instr.index 9 (.string (txt l)) (.int .i64 0)).run Tryd.prog W = .ok (.int .u8 45) W := fun W => by have := byte_run0 l hb h0 W; rw [h45] at this; exact this
      have HF : Hid (Spc.from_ l = 1) := by show _ = _; unfold Spc.from_; rw [if_pos ⟨h45, h0⟩]
      have FL : Hid (1 ≤ l.length) := h0
      clear h45
      go_enter Tryd.func21, Tryd.ntmps21
      go_wp2_with fail
      go_loopw [4, 6] (fun n i wr => ∃ j : Nat, 1 ≤ j ∧ j ≤ l.length ∧ j ≤ 11 ∧ i = .int .i64 (j : Nat) ∧ n = .int .i64 (numA l 1 j) ∧ wr = w) (fun _ i _ => 2000 - (intOf i).toNat)
      case atStart => exact ⟨1, Nat.le_refl _, FL.out, by omega, rfl, by unfold numA; rw [Nat.sub_self, List.take_zero]; rfl, rfl⟩
      case round =>
        obtain ⟨j, hfj, hjl, hj10, rfl, rfl, rfl⟩ := hrel
        have hni := numA_in l HB.out 1 j (by omega)
        by_cases hgo : j < l.length ∧ j < 11
        · obtain ⟨g1, g2⟩ := hgo
          have hx := HX.out j g1
          have HNX := Lib.hid (numA_next l 1 j hfj g1)
          have hb1 : l.getD j 0 < 256 := by rw [getD_at g1]; exact HB.out _ (List.getElem_mem g1)
          generalize l.getD j 0 = ch at *
          generalize numA l 1 j = na at *
          go_wp2_with fail
          exact ⟨⟨j + 1, by omega, by omega, by omega, by go_num, by rw [HNX.out], by first | rfl | trivial⟩, by simp [intOf]; omega⟩
        · have HE := Lib.hid (numA_end l 1 j (by omega) FL.out hj10)
          have HV : Hid (Spc.numV l = -(numA l 1 j)) := by
            show Spc.numV l = _
            unfold Spc.numV
            rw [HF.out, HE.out]
            rfl
          have hcase : (¬ j < l.length) ∨ (j < l.length ∧ ¬ j < 11) := by omega
          have hend : Spc.i64 (-(numA l 1 j)) := by unfold Spc.i64; omega
          have C := Lib.hid (HD.out (-(numA l 1 j)) wr hend)
          have q := HQ.out (-(numA l 1 j))
          obtain ⟨b, hbq⟩ : ∃ b, b = decide (Spc.digs (-(numA l 1 j)) = l) := ⟨_, rfl⟩
          rw [← hbq] at q
          have HBQ := Lib.hid hbq
          clear hbq hgo
          obtain ⟨na, hna⟩ : ∃ na, na = numA l 1 j := ⟨_, rfl⟩
          rw [← hna] at C q hni HV HBQ ⊢
          have HNA := Lib.hid hna
          clear hna hend
          rcases hcase with hc1 | ⟨hc1, hc2⟩
          · by_cases h9 : l.length ≤ 10
            · have HR : Hid (Spc.numB l = b) := by show _ = _; rw [HN.out, HF.out, decide_eq_true h9, Bool.true_and, HV.out, HBQ.out]
              go_wp2_with fail
              refine C.out.mono ?_
              rintro e w1 ⟨rfl, rfl⟩
              go_wp2_with fail
              go_ret2
              exact ⟨by first | (rw [HR.out, HV.out]; done) | (rw [HR.out, HV.out]; rfl), rfl⟩
            · have HR : Hid (Spc.numB l = false) := by show _ = _; rw [HN.out, HF.out, decide_eq_false h9, Bool.false_and]
              have h9' : 10 < l.length := by omega
              clear h9
              go_wp2_with fail
              go_ret2
              exact ⟨by first | (rw [HR.out, HV.out]; done) | (rw [HR.out, HV.out]; rfl), by first | rfl | trivial⟩
          · have h9' : 10 < l.length := by omega
            have HR : Hid (Spc.numB l = false) := by show _ = _; rw [HN.out, HF.out, decide_eq_false (by omega), Bool.false_and]
            go_wp2_with fail
            go_ret2
            exact ⟨by first | (rw [HR.out, HV.out]; done) | (rw [HR.out, HV.out]; rfl), by first | rfl | trivial⟩
    · obtain ⟨ch, hch⟩ : ∃ ch, ch = l.getD 0 0 := ⟨_, rfl⟩
      have hx0 : ∀ W, (Instr.index 9 (.string (txt l)) (.int .i64 0)).run Tryd.prog W = .ok (.int .u8 (ch : Nat)) W := by rw [hch]; exact byte_run0 l hb h0
      have hne : ((ch : Int) == 45) = false := by rw [beq_eq_false_iff_ne]; omega
      have HF : Hid (Spc.from_ l = 0) := by show _ = _; unfold Spc.from_; rw [if_neg (fun h => h45 h.1)]
      have FL : Hid (0 ≤ l.length) := Nat.zero_le _
      clear h45 hch
      go_enter Tryd.func21, Tryd.ntmps21
      go_wp2_with fail
      go_loopw [4, 6] (fun n i wr => ∃ j : Nat, 0 ≤ j ∧ j ≤ l.length ∧ j ≤ 10 ∧ i = .int .i64 (j : Nat) ∧ n = .int .i64 (numA l 0 j) ∧ wr = w) (fun _ i _ => 2000 - (intOf i).toNat)
      case atStart => exact ⟨0, Nat.le_refl _, FL.out, by omega, rfl, by unfold numA; rw [Nat.sub_self, List.take_zero]; rfl, rfl⟩
      case round =>
        obtain ⟨j, hfj, hjl, hj10, rfl, rfl, rfl⟩ := hrel
        have hni := numA_in l HB.out 0 j (by omega)
        by_cases hgo : j < l.length ∧ j < 10
        · obtain ⟨g1, g2⟩ := hgo
          have hx := HX.out j g1
          have HNX := Lib.hid (numA_next l 0 j hfj g1)
          have hb1 : l.getD j 0 < 256 := by rw [getD_at g1]; exact HB.out _ (List.getElem_mem g1)
          generalize l.getD j 0 = ch at *
          generalize numA l 0 j = na at *
          go_wp2_with fail
          exact ⟨⟨j + 1, by omega, by omega, by omega, by go_num, by rw [HNX.out], by first | rfl | trivial⟩, by simp [intOf]; omega⟩
        · have HE := Lib.hid (numA_end l 0 j (by omega) FL.out hj10)
          have HV : Hid (Spc.numV l = numA l 0 j) := by
            show Spc.numV l = _
            unfold Spc.numV
            rw [HF.out, HE.out]
            rfl
          have hcase : (¬ j < l.length) ∨ (j < l.length ∧ ¬ j < 10) := by omega
          have hend : Spc.i64 (numA l 0 j) := by unfold Spc.i64; omega
          have C := Lib.hid (HD.out (numA l 0 j) wr hend)
          have q := HQ.out (numA l 0 j)
          obtain ⟨b, hbq⟩ : ∃ b, b = decide (Spc.digs (numA l 0 j) = l) := ⟨_, rfl⟩
          rw [← hbq] at q
          have HBQ := Lib.hid hbq
          clear hbq hgo
          obtain ⟨na, hna⟩ : ∃ na, na = numA l 0 j := ⟨_, rfl⟩
          rw [← hna] at C q hni HV HBQ ⊢
          have HNA := Lib.hid hna
          clear hna hend
          rcases hcase with hc1 | ⟨hc1, hc2⟩
          · by_cases h9 : l.length ≤ 9
            · have HR : Hid (Spc.numB l = b) := by show _ = _; rw [HN.out, HF.out, decide_eq_true h9, Bool.true_and, HV.out, HBQ.out]
              go_wp2_with fail
              refine C.out.mono ?_
              rintro e w1 ⟨rfl, rfl⟩
              go_wp2_with fail
              go_ret2
              exact ⟨by first | (rw [HR.out, HV.out]; done) | (rw [HR.out, HV.out]; rfl), rfl⟩
            · have HR : Hid (Spc.numB l = false) := by show _ = _; rw [HN.out, HF.out, decide_eq_false h9, Bool.false_and]
              have h9' : 9 < l.length := by omega
              clear h9
              go_wp2_with fail
              go_ret2
              exact ⟨by first | (rw [HR.out, HV.out]; done) | (rw [HR.out, HV.out]; rfl), by first | rfl | trivial⟩
          · have h9' : 9 < l.length := by omega
            have HR : Hid (Spc.numB l = false) := by show _ = _; rw [HN.out, HF.out, decide_eq_false (by omega), Bool.false_and]
            go_wp2_with fail
            go_ret2
            exact ⟨by first | (rw [HR.out, HV.out]; done) | (rw [HR.out, HV.out]; rfl), by first | rfl | trivial⟩
  · obtain rfl : l = [] := List.eq_nil_of_length_eq_zero (by omega)
    have hd0 : Spc.digs 0 = [48] := by unfold Spc.digs; rw [if_neg (by omega)]; exact Spc.dg_one (by omega)
    have C := Lib.hid (HD.out 0 w (by unfold Spc.i64; omega))
    have q := HQ.out 0
    rw [hd0] at C q
    have HR : Hid (Spc.numV [] = 0 ∧ Spc.numB [] = false) := by
      have hv : Spc.numV [] = 0 := rfl
      refine ⟨hv, ?_⟩
      unfold Spc.numB
      rw [hv, hd0]
      rfl
    clear hd0 HN HD HQ HX h0
    go_enter Tryd.func21, Tryd.ntmps21
    go_wp2_with fail
    go_loopw [4, 6] (fun n i wr => i = .int .i64 0 ∧ n = .int .i64 0 ∧ wr = w) (fun _ _ _ => 0)
    case atStart => exact ⟨rfl, rfl, rfl⟩
    case round =>
      obtain ⟨rfl, rfl, rfl⟩ := hrel
      go_wp2_with fail
      refine C.out.mono ?_
      rintro e w1 ⟨rfl, rfl⟩
      go_wp2_with fail
      go_ret2
      exact ⟨by rw [HR.out.1, HR.out.2]; rfl, by first | rfl | trivial⟩
end Go.Proofs.YtijloajkiannlaaDoor
