/-
  Phases and events, as numbers; their names. No program is named.
-/
import Derived.Test.YtbimacagfobdbaaDoorTx
import Derived.Test.YtbimacagfobdbaaDoorBase
namespace Go.Proofs.YtbimacagfobdbaaDoor
namespace Ph

/-- Where an event leads, -1 where it does nothing. -/
def to_ (p e : Int) : Int :=
  if e = 0 ∧ (p = 0 ∨ p = 3 ∨ p = 5) then 1 else if e = 1 ∧ p = 1 then 2 else if e = 2 ∧ p = 2 then 1 else if e = 3 ∧ p = 1 then 1
  else if (e = 4 ∨ e = 5) ∧ p = 1 then 4 else if e = 6 ∧ (p = 1 ∨ p = 2) then 4 else if e = 7 ∧ p = 1 then 3 else if e = 8 ∧ p = 4 then 5 else -1
def did (p e : Int) : Bool := decide (to_ p e ≠ -1)
def next (p e : Int) : Int := if did p e = true then to_ p e else p
theorem next_yes {p e x : Int} (h : to_ p e = x) (hx : x ≠ -1) : next p e = x ∧ did p e = true := by
  have hd : did p e = true := by unfold did; rw [h]; exact decide_eq_true hx
  unfold next
  rw [if_pos hd, h]
  exact ⟨rfl, hd⟩
theorem next_no {p e : Int} (h : to_ p e = -1) : next p e = p ∧ did p e = false := by
  have hd : did p e = false := by unfold did; rw [h]; rfl
  unfold next
  rw [if_neg (by rw [hd]; simp)]
  exact ⟨rfl, hd⟩
theorem pairs {p e : Int} (h : to_ p e ≠ -1) : (e = 0 ∧ p = 0) ∨ (e = 0 ∧ p = 3) ∨ (e = 0 ∧ p = 5) ∨ (e = 1 ∧ p = 1) ∨ (e = 2 ∧ p = 2) ∨ (e = 3 ∧ p = 1) ∨ (e = 4 ∧ p = 1) ∨ (e = 5 ∧ p = 1) ∨ (e = 6 ∧ p = 1) ∨ (e = 6 ∧ p = 2) ∨ (e = 7 ∧ p = 1) ∨ (e = 8 ∧ p = 4) := by
  unfold to_ at h
  split at h
  · rename_i hc; obtain ⟨rfl, rfl | rfl | rfl⟩ := hc <;> simp
  split at h
  · rename_i hc; obtain ⟨rfl, rfl⟩ := hc; simp
  split at h
  · rename_i hc; obtain ⟨rfl, rfl⟩ := hc; simp
  split at h
  · rename_i hc; obtain ⟨rfl, rfl⟩ := hc; simp
  split at h
  · rename_i hc; obtain ⟨rfl | rfl, rfl⟩ := hc <;> simp
  split at h
  · rename_i hc; obtain ⟨rfl, rfl | rfl⟩ := hc <;> simp
  split at h
  · rename_i hc; obtain ⟨rfl, rfl⟩ := hc; simp
  split at h
  · rename_i hc; obtain ⟨rfl, rfl⟩ := hc; simp
  · exact absurd rfl h
theorem did_iff {p e : Int} : did p e = true ↔ to_ p e ≠ -1 := by unfold did; exact decide_eq_true_iff
theorem next_to {p e : Int} (h : to_ p e ≠ -1) : next p e = to_ p e := (next_yes rfl h).1
theorem far {p e : Int} (h : ¬ (0 ≤ p ∧ p ≤ 5) ∨ ¬ (0 ≤ e ∧ e ≤ 8)) : to_ p e = -1 := by
  unfold to_
  rw [if_neg (by omega), if_neg (by omega), if_neg (by omega), if_neg (by omega), if_neg (by omega), if_neg (by omega), if_neg (by omega), if_neg (by omega)]
/-- All events, one behind the other. -/
def walk (p : Int) : List Int → Int
  | [] => p
  | e :: l => walk (next p e) l
def walkN (p : Int) : List Int → Nat
  | [] => 0
  | e :: l => (if did p e = true then 1 else 0) + walkN (next p e) l
theorem walk_append (p : Int) (a b : List Int) : walk p (a ++ b) = walk (walk p a) b := by
  induction a generalizing p with
  | nil => rfl
  | cons x a ih => exact ih _
theorem walkN_append (p : Int) (a b : List Int) : walkN p (a ++ b) = walkN p a + walkN (walk p a) b := by
  induction a generalizing p with
  | nil => simp [walkN, walk]
  | cons x a ih =>
    show (if did p x = true then 1 else 0) + walkN (next p x) (a ++ b) = _
    rw [ih]
    simp only [walkN, walk]
    omega
theorem walk_snoc (p : Int) (l : List Int) (e : Int) : walk p (l ++ [e]) = next (walk p l) e := by rw [walk_append]; rfl
theorem walkN_snoc (p : Int) (l : List Int) (e : Int) : walkN p (l ++ [e]) = walkN p l + if did (walk p l) e = true then 1 else 0 := by rw [walkN_append]; rfl
theorem walkN_le (p : Int) (l : List Int) : walkN p l ≤ l.length := by
  induction l generalizing p with
  | nil => exact Nat.le_refl _
  | cons x l ih =>
    have := ih (next p x)
    simp only [walkN, List.length_cons]
    split <;> omega
theorem walk_take (p : Int) (l : List Int) {k : Nat} (h : k < l.length) : walk p (l.take (k + 1)) = next (walk p (l.take k)) (l.getD k 0) ∧ walkN p (l.take (k + 1)) = walkN p (l.take k) + if did (walk p (l.take k)) (l.getD k 0) = true then 1 else 0 := by
  rw [List.take_succ_eq_append_getElem h, getD_at h, walk_snoc, walkN_snoc]
  exact ⟨rfl, rfl⟩
/-- The first events. -/
def evs (k : Nat) : List Int := (List.range k).map fun j => ((j : Nat) : Int)
/-- All events that lead from one to another. -/
def btw (p t : Int) (e : Int) : Bool := did p e && decide (next p e = t)
def between (p t : Int) : List Int := [0, 1, 2, 3, 4, 5, 6, 7, 8].filter (btw p t)
theorem between_evs (p t : Int) : between p t = (evs 9).filter (btw p t) := rfl
theorem evs_next (p t : Int) (k : Nat) : (evs (k + 1)).filter (btw p t) = (evs k).filter (btw p t) ++ if btw p t (k : Nat) = true then [((k : Nat) : Int)] else [] := by
  unfold evs
  rw [List.range_succ, List.map_append, List.filter_append]
  congr 1
  simp [List.filter]
  split <;> simp_all
theorem evs_len (p t : Int) (k : Nat) : ((evs k).filter (btw p t)).length ≤ k := by
  refine Nat.le_trans (List.length_filter_le _ _) ?_
  simp [evs]
def name (p : Int) : ByteArray :=
  if p = 0 then ⟨#[105, 100, 108, 101]⟩ else if p = 1 then ⟨#[114, 117, 110, 110, 105, 110, 103]⟩ else if p = 2 then ⟨#[112, 97, 117, 115, 101, 100]⟩
  else if p = 3 then ⟨#[99, 111, 109, 112, 108, 101, 116, 101]⟩ else if p = 4 then ⟨#[114, 111, 108, 108, 105, 110, 103, 45, 98, 97, 99, 107]⟩
  else if p = 5 then ⟨#[114, 111, 108, 108, 101, 100, 45, 98, 97, 99, 107]⟩ else ⟨#[]⟩
def word (e : Int) : ByteArray :=
  if e = 0 then ⟨#[98, 101, 103, 105, 110]⟩ else if e = 1 then ⟨#[112, 97, 117, 115, 101]⟩ else if e = 2 then ⟨#[114, 101, 115, 117, 109, 101]⟩
  else if e = 3 then ⟨#[112, 114, 111, 109, 111, 116, 101]⟩ else if e = 4 then ⟨#[104, 101, 97, 108, 116, 104]⟩ else if e = 5 then ⟨#[100, 101, 97, 100, 108, 105, 110, 101]⟩
  else if e = 6 then ⟨#[97, 98, 111, 114, 116]⟩ else if e = 7 then ⟨#[100, 111, 110, 101]⟩ else if e = 8 then ⟨#[98, 97, 99, 107]⟩ else ⟨#[]⟩
theorem word_none {e : Int} (h : ¬ (0 ≤ e ∧ e ≤ 8)) : word e = ⟨#[]⟩ := by
  unfold word
  rw [if_neg (by omega), if_neg (by omega), if_neg (by omega), if_neg (by omega), if_neg (by omega), if_neg (by omega), if_neg (by omega), if_neg (by omega), if_neg (by omega)]
theorem name_none {p : Int} (h : ¬ (0 ≤ p ∧ p ≤ 5)) : name p = ⟨#[]⟩ := by
  unfold name
  rw [if_neg (by omega), if_neg (by omega), if_neg (by omega), if_neg (by omega), if_neg (by omega), if_neg (by omega)]
/-- The place of a word among the events' words, 9 where it is none. -/
def place (w : ByteArray) : Nat := [0, 1, 2, 3, 4, 5, 6, 7, 8].findIdx fun e : Int => decide (word e = w)
def of (w : ByteArray) : Int := if place w < 9 then (place w : Nat) else 0
def isWord (w : ByteArray) : Bool := decide (place w < 9)
def open_ (p : Int) : Bool := decide (p = 1) || (decide (p = 2) || decide (p = 4))
def over (p : Int) : Bool := decide (p = 3) || decide (p = 5)
theorem place_le (w : ByteArray) : place w ≤ 9 := by
  unfold place
  exact Nat.le_trans (List.findIdx_le_length) (Nat.le_refl 9)
theorem place_lt (w : ByteArray) {k : Nat} (h : k < place w) (hk : k < 9) : word k ≠ w := by
  intro e
  have := List.not_of_lt_findIdx h
  rcases k with _ | _ | _ | _ | _ | _ | _ | _ | _ | k
  all_goals first | omega | (simp at this; exact this e)
theorem nine_at {k : Nat} (h : k < [0, 1, 2, 3, 4, 5, 6, 7, (8 : Int)].length) : [0, 1, 2, 3, 4, 5, 6, 7, (8 : Int)][k]'h = ((k : Nat) : Int) := by
  rcases k with _ | _ | _ | _ | _ | _ | _ | _ | _ | k
  all_goals first | rfl | exact absurd h (by simp)
theorem place_at (w : ByteArray) (h : place w < 9) : word (place w : Nat) = w := by
  have h2 : place w < [0, 1, 2, 3, 4, 5, 6, 7, (8 : Int)].length := h
  have := List.findIdx_getElem (p := fun e : Int => decide (word e = w)) (w := h2)
  have e : [0, 1, 2, 3, 4, 5, 6, 7, (8 : Int)][place w]'h2 = ((place w : Nat) : Int) := by
    exact nine_at h2
  have h3 : decide (word ([0, 1, 2, 3, 4, 5, 6, 7, (8 : Int)][place w]'h2) = w) = true := this
  rw [e] at h3
  exact of_decide_eq_true h3
theorem place_is (w : ByteArray) {k : Nat} (hk : k < 9) (h : word k = w) (hj : ∀ j, j < k → word (j : Nat) ≠ w) : place w = k := by
  by_cases hlt : k < place w
  · exact absurd h (place_lt w hlt hk)
  · by_cases he : place w = k
    · exact he
    · have h9 : place w < 9 := by omega
      exact absurd (place_at w h9) (hj _ (by omega))
theorem place_none (w : ByteArray) (h : ∀ j, j < 9 → word (j : Nat) ≠ w) : place w = 9 := by
  by_cases h9 : place w < 9
  · exact absurd (place_at w h9) (h _ h9)
  · have := place_le w; omega
theorem of_word {e : Int} (h : 0 ≤ e ∧ e ≤ 8) : of (word e) = e ∧ isWord (word e) = true := by
  have hk : e = 0 ∨ e = 1 ∨ e = 2 ∨ e = 3 ∨ e = 4 ∨ e = 5 ∨ e = 6 ∨ e = 7 ∨ e = 8 := by omega
  rcases hk with rfl | rfl | rfl | rfl | rfl | rfl | rfl | rfl | rfl <;> decide
end Ph
end Go.Proofs.YtbimacagfobdbaaDoor
