/-
  The document's package of layer 10: bounds, numbers made of any, texts. No condition.
-/
import Derived.Test.YtifokcpkamdkeaaDoorRcMem
import Derived.Test.YtifokcpkamdkeaaDoorSpRef3
namespace Go.Proofs.YtifokcpkamdkeaaDoor
open Go.RowKit
set_option linter.unusedSimpArgs false

theorem rcin_any (n lo hi : Int) (w : World) : Calls Tryd.prog 27 #[.int .i64 n, .int .i64 lo, .int .i64 hi] w fun e w' => e = .returned (.bool (Spc.inn n lo hi)) ∧ w' = w := by
  have HI : Hid (Spc.inn n lo hi = (decide (lo ≤ n) && decide (n ≤ hi))) := rfl
  by_cases h1 : lo ≤ n
  · by_cases h2 : n ≤ hi
    · have e : Spc.inn n lo hi = true := Spc.inn_iff.2 ⟨h1, h2⟩
      rw [e]
      clear HI e
      go_enter Tryd.func27, Tryd.ntmps27
      go_wp2_with fail
      go_ret
      exact ⟨rfl, rfl⟩
    · have e : Spc.inn n lo hi = false := by rw [HI.out, Bool.and_eq_false_iff, decide_eq_false_iff_not, decide_eq_false_iff_not]; exact .inr h2
      rw [e]
      clear HI e
      go_enter Tryd.func27, Tryd.ntmps27
      go_wp2_with fail
      go_ret
      exact ⟨rfl, rfl⟩
  · have e : Spc.inn n lo hi = false := by rw [HI.out, Bool.and_eq_false_iff, decide_eq_false_iff_not, decide_eq_false_iff_not]; exact .inl h1
    rw [e]
    clear HI e
    go_enter Tryd.func27, Tryd.ntmps27
    go_wp2_with fail
    go_ret
    exact ⟨rfl, rfl⟩
theorem rcnear_any (n least many : Int) (hl : 0 ≤ least ∧ least ≤ 1000) (hm : 0 < many ∧ many ≤ 1000) (w : World) : Calls Tryd.prog 35 #[.int .i64 n, .int .i64 least, .int .i64 many] w fun e w' => e = .returned (.int .i64 (Spc.near n least many)) ∧ w' = w := by
  have HN : Hid (Spc.near n least many = least + n % 18446744073709551616 % many) := rfl
  have h1 := Int.emod_nonneg n (b := 18446744073709551616) (by omega)
  have h2 := Int.emod_lt_of_pos n (b := 18446744073709551616) (by omega)
  have h3 := Int.emod_nonneg (n % 18446744073709551616) (b := many) (by omega)
  have h4 := Int.emod_lt_of_pos (n % 18446744073709551616) hm.1
  have hu : IntKind.u64.wrap n = n % 18446744073709551616 := IntKind.wrap_u64 n
  have hu2 : IntKind.u64.wrap many = many := by rw [IntKind.wrap_u64]; omega
  generalize n % 18446744073709551616 = y at *
  have ht : y.tmod many = y % many := Int.tmod_eq_emod_of_nonneg h1
  generalize y % many = z at *
  go_enter Tryd.func35, Tryd.ntmps35
  go_wp2_with fail
  go_ret
  exact ⟨by rw [HN.out]; rfl, rfl⟩
theorem size_text {t : ByteArray} (h : t.size ≤ maxLen) : (t.size : Int) ≤ 9223372036854775807 := by unfold maxLen at h; omega
theorem text_empty (t : ByteArray) : t.toList.isEmpty = decide (t.size = 0) := by
  rw [ByteArray.toList_eq, Bool.eq_iff_iff, List.isEmpty_iff, decide_eq_true_eq]
  constructor
  · intro h
    have : t.data.toList.length = 0 := by rw [h]; rfl
    rw [Array.length_toList] at this
    exact this
  · intro h
    exact List.length_eq_zero_iff.1 (by rw [Array.length_toList]; exact h)
theorem rcbare_no (r : Rc.R) (w : World) : Calls Tryd.prog 28 #[Rc.val r, .bool false] w (APos w (.bool (Rc.bare r))) := by
  have B1 := Lib.hid ((Below.refl w.heap.size w).alloc (Nat.le_refl _) (.cells (Rc.cells r) 26))
  have he := text_empty r.text
  unfold Rc.bare
  have c5 := (RcAt.new w r).cs.c5
  generalize decide (r.text.size = 0) = b at *
  unfold Rc.val Rc.cells at *
  go_enter Tryd.func28, Tryd.ntmps28
  go_wp2_with fail
  go_ret
  exact ⟨rfl, B1.out⟩
theorem rcbare_yes (r : Rc.R) (w : World) (hs : r.text.size ≤ maxLen) : Calls Tryd.prog 28 #[Rc.val r, .bool true] w (APos w (.bool (Rc.told r))) := by
  have B1 := Lib.hid ((Below.refl w.heap.size w).alloc (Nat.le_refl _) (.cells (Rc.cells r) 26))
  have hz := size_text hs
  have c5 := (RcAt.new w r).cs.c5
  have E : Hid (Rc.told r = (decide (1 ≤ (r.text.size : Int)) && decide ((r.text.size : Int) ≤ 64))) := by
    show _ = _
    unfold Rc.told
    rw [Bool.eq_iff_iff]
    simp only [Bool.and_eq_true, decide_eq_true_eq]
    omega
  unfold Rc.val Rc.cells at *
  go_enter Tryd.func28, Tryd.ntmps28
  go_wp2_with fail
  all_goals
    go_ret
    refine ⟨?_, B1.out⟩
    show Ending.returned (.bool _) = _
    refine congrArg (fun b => Ending.returned (.bool b)) ?_
    rw [E.out]
    simp [*] <;> omega
end Go.Proofs.YtifokcpkamdkeaaDoor
