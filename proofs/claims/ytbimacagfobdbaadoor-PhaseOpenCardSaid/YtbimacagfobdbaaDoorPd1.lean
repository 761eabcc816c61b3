/-
  Package phase (tables at package level): Next, Name, Word, Of, Walk, Open, Over, Between. No condition but that the tables lie.
-/
import Derived.Test.YtbimacagfobdbaaDoorPhC
import Derived.Test.YtbimacagfobdbaaDoorPhL0
import Derived.Test.YtbimacagfobdbaaDoorVarTab
namespace Go.Proofs.YtbimacagfobdbaaDoor
open Go.RowKit
set_option linter.unusedSimpArgs false
set_option linter.unusedVariables false

theorem g_leads : Tryd.prog.globalNamed "pacesetter/phase.leads" = some 0 := by kernel_rfl
theorem g_names : Tryd.prog.globalNamed "pacesetter/phase.names" = some 2 := by kernel_rfl
theorem g_words : Tryd.prog.globalNamed "pacesetter/phase.words" = some 1 := by kernel_rfl
/-- What the table has: Idle's number, to which no event leads, where an event does nothing. -/
def ledTo (p e : Int) : Int := if Ph.to_ p e = -1 then 0 else Ph.to_ p e
theorem ledTo_no {p e : Int} (h : Ph.to_ p e = -1) : ledTo p e = 0 := if_pos h
theorem ledTo_yes {p e : Int} (h : Ph.to_ p e ≠ -1) : ledTo p e = Ph.to_ p e := if_neg h
theorem to_pos {p e : Int} (h : Ph.to_ p e ≠ -1) : Ph.to_ p e ≠ 0 := by
  rcases Ph.pairs h with ⟨rfl, rfl⟩ | ⟨rfl, rfl⟩ | ⟨rfl, rfl⟩ | ⟨rfl, rfl⟩ | ⟨rfl, rfl⟩ | ⟨rfl, rfl⟩ | ⟨rfl, rfl⟩ | ⟨rfl, rfl⟩ | ⟨rfl, rfl⟩ | ⟨rfl, rfl⟩ | ⟨rfl, rfl⟩ | ⟨rfl, rfl⟩
  all_goals decide
def leadsT : List Value := [0, 1, 2, 3, 4, 5].flatMap fun p => [0, 1, 2, 3, 4, 5, 6, 7, 8].map fun e => .int .i64 (ledTo p e)
def namesT : List Value := [0, 1, 2, 3, 4, 5].map fun p => .string (Ph.name p)
def wordsT : List Value := [0, 1, 2, 3, 4, 5, 6, 7, 8].map fun e => .string (Ph.word e)
/-- The package's tables lie. -/
structure PT (w : World) : Prop where
  leads : VarIs Tryd.prog w "pacesetter/phase.leads" leadsT
  names : VarIs Tryd.prog w "pacesetter/phase.names" namesT
  words : VarIs Tryd.prog w "pacesetter/phase.words" wordsT
theorem PT.on {w w' : World} (h : PT w) (hb : Below w.heap.size w w') : PT w' := ⟨h.leads.on g_leads hb, h.names.on g_names hb, h.words.on g_words hb⟩
theorem leadsT_at (p e : Nat) (hp : p < 6) (he : e < 9) : leadsT[p * 9 + e]? = some (.int .i64 (ledTo p e)) := by
  rcases p with _ | _ | _ | _ | _ | _ | p
  all_goals first | omega | skip
  all_goals rcases e with _ | _ | _ | _ | _ | _ | _ | _ | _ | e
  all_goals first | rfl | omega
theorem namesT_at (p : Nat) (hp : p < 6) : namesT[p]? = some (.string (Ph.name p)) := by
  rcases p with _ | _ | _ | _ | _ | _ | p
  all_goals first | rfl | omega
theorem wordsT_at (p : Nat) (hp : p < 9) : wordsT[p]? = some (.string (Ph.word p)) := by
  rcases p with _ | _ | _ | _ | _ | _ | _ | _ | _ | p
  all_goals first | rfl | omega
theorem pisp_any (n : Int) (w : World) : Calls Tryd.prog 24 #[.int .i64 n] w fun x w' => x = .returned (.bool (decide (0 ≤ n) && decide (n < 6))) ∧ w' = w := by
  by_cases h1 : 0 ≤ n
  · by_cases h2 : n < 6
    · rw [decide_eq_true h1, decide_eq_true h2]
      go_enter Tryd.func24, Tryd.ntmps24
      go_wp2_with fail
      go_ret
      exact ⟨rfl, rfl⟩
    · rw [decide_eq_true h1, decide_eq_false h2]
      go_enter Tryd.func24, Tryd.ntmps24
      go_wp2_with fail
      go_ret
      exact ⟨rfl, rfl⟩
  · rw [decide_eq_false h1]
    go_enter Tryd.func24, Tryd.ntmps24
    go_wp2_with fail
    go_ret
    exact ⟨rfl, rfl⟩
theorem pise_any (n : Int) (w : World) : Calls Tryd.prog 25 #[.int .i64 n] w fun x w' => x = .returned (.bool (decide (0 ≤ n) && decide (n < 9))) ∧ w' = w := by
  by_cases h1 : 0 ≤ n
  · by_cases h2 : n < 9
    · rw [decide_eq_true h1, decide_eq_true h2]
      go_enter Tryd.func25, Tryd.ntmps25
      go_wp2_with fail
      go_ret
      exact ⟨rfl, rfl⟩
    · rw [decide_eq_true h1, decide_eq_false h2]
      go_enter Tryd.func25, Tryd.ntmps25
      go_wp2_with fail
      go_ret
      exact ⟨rfl, rfl⟩
  · rw [decide_eq_false h1]
    go_enter Tryd.func25, Tryd.ntmps25
    go_wp2_with fail
    go_ret
    exact ⟨rfl, rfl⟩
set_option maxRecDepth 100000 in
theorem pnext_any (p e : Int) (hp : i64P p) (he : i64P e) (w : World) (ht : PT w) : Calls Tryd.prog 9 #[.int .i64 p, .int .i64 e] w (PhPost w (.int .i64 (Ph.next p e)) (.bool (Ph.did p e))) := by
  have B := Lib.hid (Below.refl w.heap.size w)
  have CI := Lib.hid (fun n W => pisp_any n W)
  have CJ := Lib.hid (fun n W => pise_any n W)
  by_cases h1 : 0 ≤ p ∧ p < 6
  · obtain ⟨k, rfl⟩ := Int.eq_ofNat_of_zero_le h1.1
    by_cases h2 : 0 ≤ e ∧ e < 9
    · obtain ⟨j, rfl⟩ := Int.eq_ofNat_of_zero_le h2.1
      have hc := ht.leads.cell g_leads (leadsT_at k j (by omega) (by omega))
      have hi := fun W => CI.out (k : Int) W
      have hj := fun W => CJ.out (j : Int) W
      rw [decide_eq_true h1.1, decide_eq_true h1.2] at hi
      rw [decide_eq_true h2.1, decide_eq_true h2.2] at hj
      have HI := Lib.hid hi
      have HJ := Lib.hid hj
      have a1 := h1.1
      have a2 := h1.2
      have a3 := h2.1
      have a4 := h2.2
      clear hi hj CI CJ ht hp he h1 h2
      by_cases hd : Ph.to_ (k : Nat) (j : Nat) = -1
      · rw [(Ph.next_no hd).1, (Ph.next_no hd).2]
        rw [ledTo_no hd] at hc
        clear hd
        go_enter Tryd.func9, Tryd.ntmps9
        go_wp2_with (first
          | (go_at_call 24; (with_reducible refine (HI.out _).mono ?_); rintro x w1 ⟨rfl, rfl⟩)
          | (go_at_call 25; (with_reducible refine (HJ.out _).mono ?_); rintro x w1 ⟨rfl, rfl⟩))
        go_ret2
        exact ⟨rfl, B.out⟩
      · rw [(Ph.next_yes rfl hd).1, (Ph.next_yes rfl hd).2]
        have hq : (Ph.to_ (k : Nat) (j : Nat) == 0) = false := by rw [beq_eq_false_iff_ne]; exact to_pos hd
        rw [ledTo_yes hd] at hc
        clear hd
        generalize Ph.to_ (k : Nat) (j : Nat) = x at *
        go_enter Tryd.func9, Tryd.ntmps9
        go_wp2_with (first
          | (go_at_call 24; (with_reducible refine (HI.out _).mono ?_); rintro x w1 ⟨rfl, rfl⟩)
          | (go_at_call 25; (with_reducible refine (HJ.out _).mono ?_); rintro x w1 ⟨rfl, rfl⟩))
        go_ret2
        exact ⟨rfl, B.out⟩
    · have hf := Ph.far (p := (k : Nat)) (e := e) (.inr (by omega))
      rw [(Ph.next_no hf).1, (Ph.next_no hf).2]
      have hi := fun W => CI.out (k : Int) W
      have hj := fun W => CJ.out e W
      rw [decide_eq_true h1.1, decide_eq_true h1.2] at hi
      have hz : (decide (0 ≤ e) && decide (e < 9)) = false := by rw [Bool.and_eq_false_iff, decide_eq_false_iff_not, decide_eq_false_iff_not]; omega
      rw [hz] at hj
      have HI := Lib.hid hi
      have HJ := Lib.hid hj
      clear hi hj CI CJ ht hp he h1 h2 hz hf
      go_enter Tryd.func9, Tryd.ntmps9
      go_wp2_with (first
        | (go_at_call 24; (with_reducible refine (HI.out _).mono ?_); rintro x w1 ⟨rfl, rfl⟩)
        | (go_at_call 25; (with_reducible refine (HJ.out _).mono ?_); rintro x w1 ⟨rfl, rfl⟩))
      go_ret2
      exact ⟨rfl, B.out⟩
  · have hf := Ph.far (p := p) (e := e) (.inl (by omega))
    rw [(Ph.next_no hf).1, (Ph.next_no hf).2]
    have hi := fun W => CI.out p W
    have hz : (decide (0 ≤ p) && decide (p < 6)) = false := by rw [Bool.and_eq_false_iff, decide_eq_false_iff_not, decide_eq_false_iff_not]; omega
    rw [hz] at hi
    have HI := Lib.hid hi
    clear hi CI CJ ht hp he h1 hz hf
    go_enter Tryd.func9, Tryd.ntmps9
    go_wp2_with (go_at_call 24; (with_reducible refine (HI.out _).mono ?_); rintro x w1 ⟨rfl, rfl⟩)
    go_ret2
    exact ⟨rfl, B.out⟩
end Go.Proofs.YtbimacagfobdbaaDoor
