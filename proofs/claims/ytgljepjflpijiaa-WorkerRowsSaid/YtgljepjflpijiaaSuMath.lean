/-
  Units' slots, purely: what happens to them by the document's table. No program is named. No condition.
-/
import Derived.Test.YtgljepjflpijiaaBase
namespace Go.Proofs.Ytgljepjflpijiaa
namespace Su
/-- A slot: state, version, wanted version, number. -/
structure S where
  st : Int
  v : Int
  wa : Int
  sq : Int
deriving DecidableEq
def Right (s : S) : Prop := 0 ≤ s.st ∧ s.st ≤ 4 ∧ 0 ≤ s.v ∧ 0 ≤ s.wa ∧ 0 ≤ s.sq ∧ (0 < s.v ↔ s.st ≠ 0)
instance (s : S) : Decidable (Right s) := by unfold Right; exact inferInstance
def takes (s : S) (v q : Int) : Prop := Right s ∧ 0 ≤ v ∧ s.sq < q
instance (s : S) (v q : Int) : Decidable (takes s v q) := by unfold takes; exact inferInstance
def want (s : S) (v q : Int) : S := if takes s v q then ⟨if 1 ≤ s.st ∧ s.st ≤ 3 ∧ s.v ≠ v then 4 else s.st, s.v, v, q⟩ else s
def goes (s : S) : Prop := Right s ∧ (s.st = 0 ∧ s.wa ≠ 0 ∨ s.st = 1 ∨ s.st = 4)
instance (s : S) : Decidable (goes s) := by unfold goes; exact inferInstance
def go (s : S) : S := if goes s then (if s.st = 0 then ⟨1, s.wa, s.wa, s.sq⟩ else if s.st = 1 then ⟨2, s.v, s.wa, s.sq⟩ else ⟨0, 0, s.wa, s.sq⟩) else s
def turns (s : S) (a : Int) : Prop := Right s ∧ s.st = a
instance (s : S) (a : Int) : Decidable (turns s a) := by unfold turns; exact inferInstance
def turn (s : S) (a b : Int) : S := if turns s a then ⟨b, s.v, s.wa, s.sq⟩ else s
def falls (s : S) : Prop := Right s ∧ s.st ≠ 0
instance (s : S) : Decidable (falls s) := by unfold falls; exact inferInstance
def fall (s : S) : S := if falls s then ⟨0, 0, s.wa, s.sq⟩ else s
def settled (s : S) : Prop := s.st = 0 ∧ s.wa = 0 ∨ s.st = 2 ∧ s.v = s.wa
instance (s : S) : Decidable (settled s) := by unfold settled; exact inferInstance
def In (s : S) : Prop := (-9223372036854775808 ≤ s.st ∧ s.st ≤ 9223372036854775807) ∧ (-9223372036854775808 ≤ s.v ∧ s.v ≤ 9223372036854775807) ∧ (-9223372036854775808 ≤ s.wa ∧ s.wa ≤ 9223372036854775807) ∧ (-9223372036854775808 ≤ s.sq ∧ s.sq ≤ 9223372036854775807)
def zero : S := ⟨0, 0, 0, 0⟩
/-- What the document's Good makes of any. -/
def good (a b c d : Nat) : S := ⟨(a % 5 : Nat), if a % 5 = 0 then 0 else ((1 + b % 3 : Nat) : Int), (c % 4 : Nat), (d % 9 : Nat)⟩
theorem good_right (a b c d : Nat) : Right (good a b c d) := by
  unfold Right good
  simp only
  split <;> omega
theorem want_no {s : S} {v q : Int} (h : ¬ takes s v q) : want s v q = s := if_neg h
theorem want_yes {s : S} {v q : Int} (h : takes s v q) : want s v q = ⟨if 1 ≤ s.st ∧ s.st ≤ 3 ∧ s.v ≠ v then 4 else s.st, s.v, v, q⟩ := if_pos h
theorem want_right {s : S} (v q : Int) (h : Right s) : Right (want s v q) := by
  unfold want
  split
  case isFalse => exact h
  case isTrue ht =>
    unfold takes Right at ht
    unfold Right
    simp only
    split <;> omega
theorem go_right {s : S} (h : Right s) : Right (go s) := by
  unfold go
  split
  case isFalse => exact h
  case isTrue ht =>
    unfold goes at ht
    unfold Right at *
    split
    · simp only; omega
    · split
      · simp only; omega
      · simp only; omega
theorem turn_right {s : S} {a b : Int} (ha : 2 ≤ a ∧ a ≤ 3) (hb : 2 ≤ b ∧ b ≤ 3) (h : Right s) : Right (turn s a b) := by
  unfold turn
  split
  case isFalse => exact h
  case isTrue ht =>
    unfold turns at ht
    unfold Right at *
    simp only
    omega
theorem fall_right {s : S} (h : Right s) : Right (fall s) := by
  unfold fall
  split
  case isFalse => exact h
  case isTrue ht =>
    unfold Right at *
    simp only
    omega
theorem want_did {s : S} {v q : Int} (h : takes s v q) : want s v q ≠ s := by
  rw [want_yes h]
  intro e
  have := congrArg S.sq e
  unfold takes at h
  simp only at this
  omega
theorem go_did {s : S} (h : goes s) : go s ≠ s := by
  unfold go
  rw [if_pos h]
  intro e
  have := congrArg S.st e
  unfold goes at h
  split at this
  · simp only at this; omega
  · split at this
    · simp only at this; omega
    · simp only at this; omega
theorem turn_did {s : S} {a b : Int} (hab : a ≠ b) (h : turns s a) : turn s a b ≠ s := by
  unfold turn
  rw [if_pos h]
  intro e
  have := congrArg S.st e
  unfold turns at h
  simp only at this
  omega
theorem fall_did {s : S} (h : falls s) : fall s ≠ s := by
  unfold fall
  rw [if_pos h]
  intro e
  have := congrArg S.st e
  unfold falls at h
  simp only at this
  omega
end Su
end Go.Proofs.Ytgljepjflpijiaa
