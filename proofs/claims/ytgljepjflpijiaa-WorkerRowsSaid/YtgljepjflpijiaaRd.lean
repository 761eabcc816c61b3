/-
  A slice of bytes that reads as a list of numbers: small laws. No program is named. No condition.
-/
import Derived.WalkKit
import Derived.Below
import Derived.Deep.Draws
import Derived.Laws.Rows
import Derived.Lib.Hide
namespace Go.Proofs.Ytgljepjflpijiaa
open Go.RowKit

theorem getD_at {T : Type} {l : List T} {j : Nat} {d : T} (h : j < l.length) : l.getD j d = l[j] := by
  rw [List.getD_eq_getElem?_getD, List.getElem?_eq_getElem h, Option.getD_some]
theorem getD_off {T : Type} {l : List T} {j : Nat} {d : T} (h : l.length ≤ j) : l.getD j d = d := by
  rw [List.getD_eq_getElem?_getD, List.getElem?_eq_none h, Option.getD_none]

/-- The slice at A reads as the bytes l, in blocks below B. -/
def Rd (w : World) (B : Nat) (A : Option Addr) (l : List Nat) : Prop :=
  (∀ x ∈ l, x < 256) ∧ (0 < l.length → ∃ b o, A = some ⟨b, o, none⟩ ∧ b < B ∧ ∀ j, j < l.length → w.cell? ⟨b, o + j, none⟩ = some (.int .u8 ((l.getD j 0 : Nat) : Int)))

section
variable {w w' : World} {B B' : Nat} {A : Option Addr} {l : List Nat}
theorem Rd.empty (w : World) (B : Nat) (A : Option Addr) : Rd w B A [] := ⟨by simp, by simp⟩
theorem Rd.byte (h : Rd w B A l) (j : Nat) : l.getD j 0 < 256 := by
  by_cases hj : j < l.length
  · rw [getD_at hj]; exact h.1 _ (List.getElem_mem hj)
  · rw [getD_off (by omega)]; omega
theorem Rd.keep (h : Rd w B A l) (hk : ∀ p : Addr, p.block < B → w'.cell? p = w.cell? p) : Rd w' B A l :=
  ⟨h.1, fun hl => by
    obtain ⟨b, o, e, hb, hc⟩ := h.2 hl
    exact ⟨b, o, e, hb, fun j hj => (hk _ hb).trans (hc j hj)⟩⟩
theorem Rd.more (h : Rd w B A l) (hB : B ≤ B') : Rd w B' A l :=
  ⟨h.1, fun hl => by
    obtain ⟨b, o, e, hb, hc⟩ := h.2 hl
    exact ⟨b, o, e, by omega, hc⟩⟩
theorem Rd.below (h : Rd w B A l) (hb : Below B w w') : Rd w' B A l := h.keep fun _ hp => hb.cell hp
/-- What was below the heap's end is there still. -/
theorem Rd.on (h : Rd w w.heap.size A l) (hb : Below w.heap.size w w') : Rd w' w'.heap.size A l := (h.below hb).more hb.size
theorem Rd.take (h : Rd w B A l) (k : Nat) : Rd w B A (l.take k) :=
  ⟨fun x hx => h.1 x (List.mem_of_mem_take hx), fun hl => by
    rw [List.length_take] at hl
    obtain ⟨b, o, e, hb, hc⟩ := h.2 (by omega)
    refine ⟨b, o, e, hb, fun j hj => ?_⟩
    rw [List.length_take] at hj
    rw [hc j (by omega), getD_at (by omega), getD_at (by rw [List.length_take]; omega), List.getElem_take]⟩
theorem Rd.drop (h : Rd w B A l) {k c : Nat} (hc : l.length ≤ c) (f : Addr → Addr) (hf : ∀ b o, f ⟨b, o, none⟩ = ⟨b, o + k, none⟩) : Rd w B (if c = k then A else A.map f) (l.drop k) :=
  ⟨fun x hx => h.1 x (List.mem_of_mem_drop hx), fun hl => by
    rw [List.length_drop] at hl
    obtain ⟨b, o, rfl, hb, hcl⟩ := h.2 (by omega)
    rw [if_neg (by omega)]
    refine ⟨b, o + k, by rw [Option.map_some, hf], hb, fun j hj => ?_⟩
    rw [List.length_drop] at hj
    rw [show o + k + j = o + (k + j) from by omega, hcl (k + j) (by omega), getD_at (by omega), getD_at (by rw [List.length_drop]; omega), List.getElem_drop]⟩
end
theorem take_snoc (l : List Nat) (k : Nat) (h : k < l.length) : l.take (k + 1) = l.take k ++ [l.getD k 0] := by
  rw [List.take_succ_eq_append_getElem h, getD_at h]
end Go.Proofs.Ytgljepjflpijiaa
