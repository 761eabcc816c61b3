/-
  The developers' worker (layer 16), purely: its own slots as a function of units, changes of one slot, Fall unit by unit. No program is named. No condition.
-/
import Derived.Test.YtgljepjflpijiaaWkMath
import Derived.Test.YtgljepjflpijiaaMapG
namespace Go.Proofs.Ytgljepjflpijiaa
namespace Wk
/-- A worker's slots, by unit. -/
def slots (s : W) : Int → Option Su.S := fun u => if own s u then some (s.l u.toNat) else none
/-- Slots that are not its own are as they were at first. -/
def Clean (s : W) : Prop := ∀ i, i < 16 → ¬ own s (i : Nat) → s.l i = z4
/-- A change of a unit's slot. -/
def chS (s : W) (u : Int) (F : Su.S → Su.S) : W := if own s u then ⟨s.n, s.many, s.seen, setL s.l u.toNat (F (s.l u.toNat))⟩ else s
structure Keeps (F : Su.S → Su.S) : Prop where
  right : ∀ x, Su.Right x → Su.In x → Su.Right (F x)
  inn : ∀ x, Su.Right x → Su.In x → Su.In (F x)
theorem own_of {s t : W} (h1 : t.n = s.n) (h2 : t.many = s.many) (u : Int) : own t u ↔ own s u := by unfold own; rw [h1, h2]
theorem chS_no {s : W} {u : Int} {F : Su.S → Su.S} (h : ¬ own s u) : chS s u F = s := if_neg h
theorem chS_yes {s : W} {u : Int} {F : Su.S → Su.S} (h : own s u) : chS s u F = ⟨s.n, s.many, s.seen, setL s.l u.toNat (F (s.l u.toNat))⟩ := if_pos h
theorem chS_ok {s : W} {u : Int} {F : Su.S → Su.S} (h : Ok s) (hF : Keeps F) : Ok (chS s u F) := by
  by_cases ho : own s u
  · rw [chS_yes ho]
    have hj := (own_lt ho).1
    refine ⟨h.new, h.seen, fun i hi => ?_, fun i hi => ?_⟩
    · show Su.Right (setL s.l u.toNat _ i)
      unfold setL
      split
      · exact hF.right _ (h.right _ hj) (h.inn _ hj)
      · exact h.right i hi
    · show Su.In (setL s.l u.toNat _ i)
      unfold setL
      split
      · exact hF.inn _ (h.right _ hj) (h.inn _ hj)
      · exact h.inn i hi
  · rw [chS_no ho]; exact h
theorem chS_clean {s : W} {u : Int} {F : Su.S → Su.S} (h : Clean s) : Clean (chS s u F) := by
  by_cases ho : own s u
  · rw [chS_yes ho]
    intro i hi hn
    have hn2 : ¬ own s (i : Nat) := hn
    show setL s.l u.toNat _ i = z4
    rw [setL_off _ _ (fun e => hn2 (by rw [e, (own_lt ho).2]; exact ho))]
    exact h i hi hn2
  · rw [chS_no ho]; exact h
theorem slots_own {s : W} {u : Int} (h : own s u) : slots s u = some (s.l u.toNat) := if_pos h
theorem slots_no {s : W} {u : Int} (h : ¬ own s u) : slots s u = none := if_neg h
theorem slots_is (s : W) (u : Int) : (slots s u).isSome = decide (own s u) := by
  unfold slots
  by_cases h : own s u <;> simp [h]
theorem slots_put {s : W} {u : Int} (h : own s u) (F : Su.S → Su.S) : MapW.set (slots s) u (some (F (s.l u.toNat))) = slots (chS s u F) := by
  funext k
  by_cases hk : k = u
  · subst hk
    rw [MapW.set_same, chS_yes h]
    have : own ⟨s.n, s.many, s.seen, setL s.l k.toNat (F (s.l k.toNat))⟩ k := h
    rw [slots_own this]
    show _ = some (setL s.l k.toNat _ k.toNat)
    rw [setL_at]
  · rw [MapW.set_other _ _ hk, chS_yes h]
    by_cases ho : own s k
    · have h2 : own ⟨s.n, s.many, s.seen, setL s.l u.toNat (F (s.l u.toNat))⟩ k := ho
      rw [slots_own h2, slots_own ho]
      show _ = some (setL s.l u.toNat _ k.toNat)
      rw [setL_off _ _ (fun e => hk (by have h3 := (own_lt ho).2; have h4 := (own_lt h).2; omega))]
    · have h2 : ¬ own ⟨s.n, s.many, s.seen, setL s.l u.toNat (F (s.l u.toNat))⟩ k := ho
      rw [slots_no h2, slots_no ho]
/-! New: units from its number on. -/
def below (n many b : Int) : Int → Option Su.S := fun u => if own (new n many) u ∧ u < b then some z4 else none
theorem below_start {n many : Int} (h : mayNew n many) : (fun _ => none) = below n many n := by
  funext u
  unfold below
  rw [if_neg]
  rintro ⟨⟨h0, h1, h2⟩, h3⟩
  have h2' : u % many = n := h2
  obtain ⟨m1, m2, m3, m4⟩ := h
  rw [Int.emod_eq_of_lt h0 (by omega)] at h2'
  omega
theorem below_end (n many : Int) {b : Int} (h : 16 ≤ b) : below n many b = slots (new n many) := by
  funext u
  unfold below slots
  by_cases ho : own (new n many) u
  · rw [if_pos ⟨ho, by have := ho.2.1; omega⟩, if_pos ho]; rfl
  · rw [if_neg (fun e => ho e.1), if_neg ho]
theorem below_put {n many b : Int} (h : mayNew n many) (hb : b % many = n) (h0 : 0 ≤ b) (h1 : b < 16) : MapW.set (below n many b) b (some z4) = below n many (b + many) := by
  obtain ⟨m1, m2, m3, m4⟩ := h
  funext u
  by_cases hu : u = b
  · subst hu
    rw [MapW.set_same]
    unfold below
    rw [if_pos ⟨⟨h0, by omega, hb⟩, by omega⟩]
  · rw [MapW.set_other _ _ hu]
    unfold below
    by_cases ho : own (new n many) u
    · have he : u % many = n := ho.2.2
      by_cases hl : u < b
      · rw [if_pos ⟨ho, hl⟩, if_pos ⟨ho, by omega⟩]
      · rw [if_neg (fun e => hl e.2), if_neg]
        rintro ⟨_, h3⟩
        have h4 : (u - b) % many = 0 := Int.emod_eq_emod_iff_emod_sub_eq_zero.1 (he.trans hb.symm)
        rw [Int.emod_eq_of_lt (by omega) (by omega)] at h4
        omega
    · rw [if_neg (fun e => ho e.1), if_neg (fun e => ho e.1)]
theorem below_none (n many b : Int) : below n many b b = none := if_neg fun e => by have := e.2; omega
theorem new_clean (n many : Int) : Clean (new n many) := fun _ _ _ => rfl
/-! The units, rising. -/
theorem units_mem (s : W) : ∀ j u, u ∈ units s j ↔ own s u ∧ u < (j : Nat)
  | 0, u => by simp [units]; intro h; have := h.1; omega
  | j + 1, u => by
    unfold units
    rw [List.mem_append, units_mem s j u]
    by_cases ho : own s (j : Nat)
    · rw [if_pos ho, List.mem_singleton]
      constructor
      · rintro (⟨h1, h2⟩ | rfl)
        · exact ⟨h1, by omega⟩
        · exact ⟨ho, by omega⟩
      · rintro ⟨h1, h2⟩
        by_cases hu : u = (j : Nat)
        · exact .inr hu
        · exact .inl ⟨h1, by omega⟩
    · rw [if_neg ho]
      simp only [List.not_mem_nil, or_false]
      constructor
      · rintro ⟨h1, h2⟩; exact ⟨h1, by omega⟩
      · rintro ⟨h1, h2⟩
        refine ⟨h1, ?_⟩
        have : u ≠ (j : Nat) := fun e => ho (e ▸ h1)
        omega
theorem units_all (s : W) (u : Int) : u ∈ units s 16 ↔ own s u := by
  rw [units_mem]
  exact ⟨fun h => h.1, fun h => ⟨h, by have := h.2.1; omega⟩⟩
theorem units_rise (s : W) : ∀ j, (units s j).Pairwise (fun a b => a < b)
  | 0 => List.Pairwise.nil
  | j + 1 => by
    unfold units
    refine List.pairwise_append.2 ⟨units_rise s j, ?_, fun a ha b hb => ?_⟩
    · split
      · exact List.pairwise_singleton _ _
      · exact List.Pairwise.nil
    · have := ((units_mem s j a).1 ha).2
      split at hb
      · rw [List.mem_singleton] at hb; omega
      · cases hb
theorem units_nodup (s : W) (j : Nat) : (units s j).Nodup := (units_rise s j).imp fun h => by omega
theorem units_count (s : W) (st : Int) : ∀ j, ((units s j).filter fun u => decide ((s.l u.toNat).st = st)).length = count s st j
  | 0 => rfl
  | j + 1 => by
    unfold units count
    rw [List.filter_append, List.length_append, units_count s st j]
    congr 1
    by_cases ho : own s (j : Nat)
    · rw [if_pos ho]
      by_cases h2 : (s.l j).st = st
      · rw [if_pos ⟨ho, h2⟩]; simp [h2]
      · rw [if_neg (fun e => h2 e.2)]; simp [h2]
    · rw [if_neg ho, if_neg (fun e => ho e.1)]; rfl
/-! Fall, unit by unit. -/
def fallM (l : Nat → Su.S) (us : List Int) : Nat → Su.S := fun i => if ((i : Nat) : Int) ∈ us then Su.fall (l i) else l i
def fellM (l : Nat → Su.S) (us : List Int) : Nat := (us.filter fun u => decide (Su.falls (l u.toNat))).length
theorem fallM_nil (l : Nat → Su.S) : fallM l [] = l := by funext i; exact if_neg (by simp)
theorem fallM_at {l : Nat → Su.S} {us : List Int} {u : Int} (h0 : 0 ≤ u) (h : u ∉ us) : fallM l us u.toNat = l u.toNat := if_neg (by rw [show ((u.toNat : Nat) : Int) = u by omega]; exact h)
theorem fallM_put {l : Nat → Su.S} {us : List Int} {u : Int} (h0 : 0 ≤ u) (h : u ∉ us) : setL (fallM l us) u.toNat (Su.fall (fallM l us u.toNat)) = fallM l (us ++ [u]) := by
  funext i
  by_cases hi : i = u.toNat
  · subst hi
    rw [setL_at, fallM_at h0 h]
    unfold fallM
    rw [if_pos (by rw [show ((u.toNat : Nat) : Int) = u by omega]; simp)]
  · rw [setL_off _ _ hi]
    unfold fallM
    have : ((i : Nat) : Int) ≠ u := by omega
    by_cases h2 : ((i : Nat) : Int) ∈ us
    · rw [if_pos h2, if_pos (List.mem_append_left _ h2)]
    · rw [if_neg h2, if_neg (by simp [h2, this])]
theorem fellM_put (l : Nat → Su.S) (us : List Int) (u : Int) : fellM l (us ++ [u]) = fellM l us + if Su.falls (l u.toNat) then 1 else 0 := by
  unfold fellM
  rw [List.filter_append, List.length_append]
  congr 1
  by_cases h : Su.falls (l u.toNat) <;> simp [h]
theorem z4_falls : ¬ Su.falls z4 := by unfold Su.falls z4; decide
theorem z4_fall : Su.fall z4 = z4 := by decide
theorem fellM_all {s : W} (hc : Clean s) : ∀ j, j ≤ 16 → fellM s.l (units s j) = fallN s.l j
  | 0, _ => rfl
  | j + 1, hj => by
    unfold units fallN
    by_cases ho : own s (j : Nat)
    · rw [if_pos ho, fellM_put, fellM_all hc j (by omega)]
      simp
    · rw [if_neg ho, List.append_nil, fellM_all hc j (by omega), hc j (by omega) ho, if_neg z4_falls]; rfl
theorem slots_of {s : W} {l : Nat → Su.S} {u : Int} (h : own s u) : slots ⟨s.n, s.many, s.seen, l⟩ u = some (l u.toNat) := if_pos ((own_of (s := s) (t := ⟨s.n, s.many, s.seen, l⟩) rfl rfl u).2 h)
theorem slots_out {s : W} {l : Nat → Su.S} {u : Int} (h : ¬ own s u) : slots ⟨s.n, s.many, s.seen, l⟩ u = none := if_neg fun e => h ((own_of (s := s) (t := ⟨s.n, s.many, s.seen, l⟩) rfl rfl u).1 e)
theorem fallM_all {s : W} : slots ⟨s.n, s.many, s.seen, fallM s.l (units s 16)⟩ = slots (fallS s) := by
  unfold fallS
  generalize hus : units s 16 = us
  funext u
  by_cases ho : own s u
  · rw [slots_of ho, slots_of ho]
    have hj := own_lt ho
    unfold fallM fallL
    rw [if_pos hj.1, if_pos (by rw [hj.2, ← hus]; exact (units_all s u).2 ho)]
  · rw [slots_out ho, slots_out ho]
theorem fallS_clean {s : W} (h : Clean s) : Clean (fallS s) := fun i hi hn => by
  have hn2 : ¬ own s (i : Nat) := hn
  show fallL s.l 16 i = z4
  unfold fallL
  rw [if_pos hi, h i hi hn2, z4_fall]
theorem keeps_fall : Keeps Su.fall := ⟨fun x h _ => Su.fall_right h, fun x _ h => by
  unfold Su.fall
  split
  · unfold Su.In at *; simp only; omega
  · exact h⟩
theorem keeps_go : Keeps Su.go := ⟨fun x h _ => Su.go_right h, fun x _ h => by
  unfold Su.go
  split
  · unfold Su.In at *
    split
    · simp only; omega
    · split <;> (simp only; omega)
  · exact h⟩
theorem keeps_turn {a b : Int} (ha : 2 ≤ a ∧ a ≤ 3) (hb : 2 ≤ b ∧ b ≤ 3) : Keeps (fun x => Su.turn x a b) := ⟨fun x h _ => Su.turn_right ha hb h, fun x _ h => by
  show Su.In (Su.turn x a b)
  unfold Su.turn
  split
  · unfold Su.In at *; simp only; omega
  · exact h⟩
theorem keeps_want {v q : Int} (hv : -9223372036854775808 ≤ v ∧ v ≤ 9223372036854775807) (hq : -9223372036854775808 ≤ q ∧ q ≤ 9223372036854775807) : Keeps (fun x => Su.want x v q) := ⟨fun x h _ => Su.want_right v q h, fun x _ h => by
  show Su.In (Su.want x v q)
  unfold Su.want
  split
  · unfold Su.In at *
    simp only
    split <;> omega
  · exact h⟩
/-- What a change answers. -/
def chB (s : W) (u : Int) (B : Su.S → Bool) : Bool := decide (own s u) && B (s.l u.toNat)
theorem turnS_one (s : W) (u : Int) : turnS s u 1 = chS s u Su.go := by unfold turnS chS turnF; simp
theorem turnS_two (s : W) (u : Int) : turnS s u 2 = chS s u (fun x => Su.turn x 2 3) := by unfold turnS chS turnF; simp
theorem turnS_three (s : W) (u : Int) : turnS s u 3 = chS s u (fun x => Su.turn x 3 2) := by unfold turnS chS turnF; simp
theorem turnB_one (s : W) (u : Int) : decide (turnB s u 1) = chB s u (fun x => decide (Su.goes x)) := by unfold turnB chB turnP; simp
theorem turnB_two (s : W) (u : Int) : decide (turnB s u 2) = chB s u (fun x => decide (Su.turns x 2)) := by unfold turnB chB turnP; simp
theorem turnB_three (s : W) (u : Int) : decide (turnB s u 3) = chB s u (fun x => decide (Su.turns x 3)) := by unfold turnB chB turnP; simp
theorem fallS_ok {s : W} (h : Ok s) : Ok (fallS s) := ⟨h.new, h.seen, fun i hi => by show Su.Right (fallL s.l 16 i); unfold fallL; rw [if_pos hi]; exact keeps_fall.right _ (h.right i hi) (h.inn i hi), fun i hi => by show Su.In (fallL s.l 16 i); unfold fallL; rw [if_pos hi]; exact keeps_fall.inn _ (h.right i hi) (h.inn i hi)⟩
end Wk
end Go.Proofs.Ytgljepjflpijiaa
