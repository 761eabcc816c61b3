/-
  Layer 16: a worker as sixteen slots, purely. No program is named. No condition.
-/
import Derived.Test.YtgljepjflpijiaaSuSettle
import Derived.Test.YtgljepjflpijiaaNtMath
namespace Go.Proofs.Ytgljepjflpijiaa
namespace Wk
/-- A worker: its number, how many there are, the highest epoch seen, the slots of all units. -/
structure W where
  n : Int
  many : Int
  seen : Int
  l : Nat → Su.S
def z4 : Su.S := ⟨0, 0, 0, 0⟩
def zero : W := ⟨0, 0, 0, fun _ => z4⟩
def mayNew (n many : Int) : Prop := 1 ≤ many ∧ many ≤ 16 ∧ 0 ≤ n ∧ n < many
instance (n many : Int) : Decidable (mayNew n many) := by unfold mayNew; exact inferInstance
def new (n many : Int) : W := ⟨n, many, 0, fun _ => z4⟩
def setL (l : Nat → Su.S) (j : Nat) (x : Su.S) : Nat → Su.S := fun i => if i = j then x else l i
theorem setL_at (l : Nat → Su.S) (j : Nat) (x : Su.S) : setL l j x j = x := if_pos rfl
theorem setL_off (l : Nat → Su.S) {i j : Nat} (x : Su.S) (h : i ≠ j) : setL l j x i = l i := if_neg h
/-- Is a unit its own? -/
def own (w : W) (u : Int) : Prop := 0 ≤ u ∧ u ≤ 15 ∧ u % w.many = w.n
instance (w : W) (u : Int) : Decidable (own w u) := by unfold own; exact inferInstance
/-- What every worker keeps. -/
structure Ok (w : W) : Prop where
  new : mayNew w.n w.many
  seen : 0 ≤ w.seen ∧ w.seen ≤ 9223372036854775807
  right : ∀ i, i < 16 → Su.Right (w.l i)
  inn : ∀ i, i < 16 → Su.In (w.l i)
theorem new_ok {n many : Int} (h : mayNew n many) : Ok (new n many) :=
  ⟨h, ⟨by show (0 : Int) ≤ 0; omega, by show (0 : Int) ≤ _; omega⟩, fun _ _ => by show Su.Right z4; decide, fun _ _ => by show Su.In z4; unfold Su.In z4; decide⟩
def applyE (w : W) (m : Nt.M) : Int :=
  if ¬ (Nt.right m = true ∧ m.k = 1) then 1 else if ¬ own w m.u then 5 else if m.e < w.seen then 8 else if Su.takes (w.l m.u.toNat) m.v m.s then 0 else 7
def applyS (w : W) (m : Nt.M) : W :=
  if ¬ (Nt.right m = true ∧ m.k = 1) ∨ ¬ own w m.u ∨ m.e < w.seen then w else ⟨w.n, w.many, m.e, setL w.l m.u.toNat (Su.want (w.l m.u.toNat) m.v m.s)⟩
/-- What happens to a unit: 1 Go, 2 Hurt, 3 Heal. -/
def turnF (k : Int) (s : Su.S) : Su.S := if k = 1 then Su.go s else if k = 2 then Su.turn s 2 3 else if k = 3 then Su.turn s 3 2 else s
def turnP (k : Int) (s : Su.S) : Prop := if k = 1 then Su.goes s else if k = 2 then Su.turns s 2 else if k = 3 then Su.turns s 3 else False
instance (k : Int) (s : Su.S) : Decidable (turnP k s) := by unfold turnP; exact inferInstance
def turnS (w : W) (u k : Int) : W := if own w u then ⟨w.n, w.many, w.seen, setL w.l u.toNat (turnF k (w.l u.toNat))⟩ else w
def turnB (w : W) (u k : Int) : Prop := own w u ∧ turnP k (w.l u.toNat)
instance (w : W) (u k : Int) : Decidable (turnB w u k) := by unfold turnB; exact inferInstance
/-- Fall, of the first j units. -/
def fallL (l : Nat → Su.S) (j : Nat) : Nat → Su.S := fun i => if i < j then Su.fall (l i) else l i
def fallN (l : Nat → Su.S) : Nat → Nat
  | 0 => 0
  | j + 1 => fallN l j + if Su.falls (l j) then 1 else 0
theorem fallN_le (l : Nat → Su.S) : ∀ j, fallN l j ≤ j
  | 0 => Nat.le_refl _
  | j + 1 => by have := fallN_le l j; unfold fallN; split <;> omega
theorem fallL_zero (l : Nat → Su.S) : fallL l 0 = l := funext fun i => if_neg (Nat.not_lt_zero i)
theorem fallL_next (l : Nat → Su.S) (j : Nat) : fallL l (j + 1) = setL (fallL l j) j (Su.fall (fallL l j j)) := by
  funext i
  unfold setL fallL
  by_cases h : i = j
  · subst h
    rw [if_pos (by omega), if_pos rfl, if_neg (by omega)]
  · by_cases h2 : i < j
    · rw [if_pos (by omega), if_neg h, if_pos h2]
    · rw [if_neg (by omega), if_neg h, if_neg h2]
theorem fallL_at (l : Nat → Su.S) (j : Nat) : fallL l j j = l j := if_neg (by omega)
def fallS (w : W) : W := ⟨w.n, w.many, w.seen, fallL w.l 16⟩
def report (w : W) (u : Int) : Nt.M := if own w u then ⟨2, w.seen, (w.l u.toNat).sq, u, (w.l u.toNat).v, (w.l u.toNat).st⟩ else Nt.zero
/-- The first j units' own ones. -/
def units (w : W) : Nat → List Int
  | 0 => []
  | j + 1 => units w j ++ if own w (j : Nat) then [((j : Nat) : Int)] else []
theorem units_le (w : W) : ∀ j, (units w j).length ≤ j
  | 0 => Nat.le_refl _
  | j + 1 => by have := units_le w j; unfold units; rw [List.length_append]; split <;> simp <;> omega
def count (w : W) (st : Int) : Nat → Nat
  | 0 => 0
  | j + 1 => count w st j + if own w (j : Nat) ∧ (w.l j).st = st then 1 else 0
theorem count_le (w : W) (st : Int) : ∀ j, count w st j ≤ j
  | 0 => Nat.le_refl _
  | j + 1 => by have := count_le w st j; unfold count; split <;> omega
theorem own_lt {w : W} {u : Int} (h : own w u) : u.toNat < 16 ∧ ((u.toNat : Nat) : Int) = u := by unfold own at h; omega
theorem setL_right {l : Nat → Su.S} (h : ∀ i, i < 16 → Su.Right (l i)) {x : Su.S} (hx : Su.Right x) (j : Nat) : ∀ i, i < 16 → Su.Right (setL l j x i) := fun i hi => by
  unfold setL
  split
  · exact hx
  · exact h i hi
end Wk
end Go.Proofs.Ytgljepjflpijiaa
