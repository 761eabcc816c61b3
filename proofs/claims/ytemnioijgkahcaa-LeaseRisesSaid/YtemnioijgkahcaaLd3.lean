/-
  Package lease in memory (a struct; its map is made by the first take): New, Get, Holds, Free. No condition.
-/
import Derived.Test.YtemnioijgkahcaaLd2
import Derived.BigRegion
import Derived.Test.YtemnioijgkahcaaKept
namespace Go.Proofs.Ytemnioijgkahcaa
open Go.RowKit Go.Deep Go.Maps

namespace Ls
/-- A list of leases as a function of names. -/
def zOf (l : List En) (k : ByteArray) : Option (Int × Int × Int) := (find l k).map fun e => (e.holder, e.epoch, e.till)
theorem zOf_some (l : List En) (k : ByteArray) : (zOf l k).isSome = (find l k).isSome := by unfold zOf; cases find l k <;> rfl
theorem zOf_getD (l : List En) (k : ByteArray) : (zOf l k).getD (0, 0, 0) = (holderOf l k, epochOf l k, tillOf l k) := by unfold zOf holderOf epochOf tillOf; cases find l k <;> rfl
theorem dropK_length {l : List En} (h : Rise l) (k : ByteArray) : (dropK l k).length + (if (find l k).isSome then 1 else 0) = l.length := by
  induction l with
  | nil => rfl
  | cons e l ih =>
    have hr := List.pairwise_cons.1 h
    rw [dropK_cons, find_cons]
    by_cases hk : e.name = k
    · have : find l k = none := find_none.2 fun x hx hxk => Kv.lt_ne (hr.1 x hx) (hk.trans hxk.symm)
      have h2 := ih hr.2
      rw [this] at h2
      rw [if_pos hk, if_pos hk]
      simp at h2 ⊢
      exact h2
    · have h2 := ih hr.2
      rw [if_neg hk, if_neg hk, List.length_cons, List.length_cons]
      omega
theorem put_length {l : List En} (h : Rise l) (e : En) : (put l e).length = if (find l e.name).isSome then l.length else l.length + 1 := by
  have h2 := dropK_length h e.name
  unfold put
  rw [putK_length]
  split at h2 <;> simp_all <;> omega
theorem zOf_put (l : List En) (e : En) : zOf (put l e) = MapW.set (zOf l) e.name (some (e.holder, e.epoch, e.till)) := by
  funext k
  by_cases h : k = e.name
  · subst h
    rw [MapW.set_same]
    unfold zOf
    rw [find_put, if_pos rfl]
    rfl
  · rw [MapW.set_other _ _ h]
    unfold zOf
    rw [find_put, if_neg (fun e => h e.symm)]
theorem taken_iff {s : St} (h : Good s) (k : ByteArray) : (find s.l k).isSome = true ↔ ¬ (holderOf s.l k = 0 ∧ epochOf s.l k = 0 ∧ tillOf s.l k = 0) := by
  unfold holderOf epochOf tillOf
  cases he : find s.l k with
  | none => simp
  | some e =>
    have := (h.each e (find_some he).1).2.2.2.2.1
    simp
    intro _ h2
    omega
theorem till_time {s : St} (h : Good s) (k : ByteArray) : 0 ≤ tillOf s.l k ∧ tillOf s.l k ≤ 1099511627776 := by
  unfold tillOf
  cases he : find s.l k with
  | none => simp
  | some e => exact (h.each e (find_some he).1).2.2.2.2.2.1
theorem free_iff {s : St} (h : Good s) (k : ByteArray) (now : Int) : Free s k now ↔ tillOf s.l k = 0 ∨ late (tillOf s.l k) s.margin ≤ now := by
  unfold Free tillOf
  cases he : find s.l k with
  | none => simp
  | some e =>
    have h1 := h.each e (find_some he).1
    simp
    cases hd : e.dropped with
    | true => have := h1.2.2.2.2.2.2.1 hd; simp [this]
    | false => have := h1.2.2.2.2.2.2.2 hd; simp; omega
theorem holds_is {s : St} (h : Good s) (k : ByteArray) (ho ep now : Int) : Holds s k ho ep now ↔ (holderOf s.l k = ho ∧ epochOf s.l k = ep) ∧ (tillOf s.l k ≠ 0 ∧ now < tillOf s.l k) := by
  unfold Holds holderOf epochOf tillOf
  cases he : find s.l k with
  | none => simp
  | some e =>
    have h1 := h.each e (find_some he).1
    simp
    cases hd : e.dropped with
    | true => have := h1.2.2.2.2.2.2.1 hd; simp [this]
    | false => have := h1.2.2.2.2.2.2.2 hd; simp; omega
end Ls
/-- The table in block q, its map in mo. -/
structure LsIs (w : World) (q : Nat) (mo : Option Nat) (s : Ls.St) : Prop where
  row : w.heap[q]? = some (.cells #[.int .i64 s.margin, .map mo] 51 (0, 0))
  map : LM.Opt w mo (Ls.zOf s.l) s.l.length
  good : Ls.Good s
  few : Ls.Few s 1000001
theorem LsIs.ne {w : World} {q m : Nat} {s : Ls.St} (h : LsIs w q (some m) s) : q ≠ m := fun e => by
  obtain ⟨es, clock, hb⟩ := MapW.At.block (M := LM) h.map
  have := h.row
  rw [e, hb] at this
  injection this with this
  cases this
theorem LsIs.cells {w : World} {q : Nat} {mo : Option Nat} {s : Ls.St} (h : LsIs w q mo s) : w.cell? ⟨q, 0, none⟩ = some (.int .i64 s.margin) ∧ w.cell? ⟨q, 1, none⟩ = some (.map mo) ∧ w.frozen? ⟨q, 1, none⟩ = false ∧ q < w.heap.size :=
  ⟨by rw [cell_of_row w q 0 _ _ _ h.row]; rfl, by rw [cell_of_row w q 1 _ _ _ h.row]; rfl, frozen_of_row _ _ _ _ _ h.row, (Array.getElem?_eq_some_iff.1 h.row).1⟩
theorem LsIs.keep {w w' : World} {q : Nat} {mo : Option Nat} {s : Ls.St} (h : LsIs w q mo s) (h1 : w'.heap[q]? = w.heap[q]?) (h2 : ∀ m, mo = some m → w'.heap[m]? = w.heap[m]?) : LsIs w' q mo s := ⟨h1.trans h.row, h.map.keep h2, h.good, h.few⟩
theorem LsIs.on {w w' : World} {q : Nat} {mo : Option Nat} {s : Ls.St} (h : LsIs w q mo s) (hb : Below w.heap.size w w') : LsIs w' q mo s := ⟨(hb.block q h.cells.2.2.2).trans h.row, h.map.on hb, h.good, h.few⟩
theorem LsIs.look {w : World} {q : Nat} {mo : Option Nat} {s : Ls.St} (h : LsIs w q mo s) (k : ByteArray) (hk : k.size ≤ maxLen) : (Instr.lookup 49 (.map mo) (.string k) false).run Try.prog w = .ok (leV (Ls.holderOf s.l k) (Ls.epochOf s.l k) (Ls.tillOf s.l k)) w := by
  have := h.map.look k hk
  rw [show LM.zero = (0, 0, 0) from rfl, Ls.zOf_getD] at this
  exact this
/-- The predicate of the contracts. -/
def LsP : LPred := fun w X q s => ∃ mo, LsIs w q mo s ∧ X q ∧ (∀ m, mo = some m → X m) ∧ ∀ i, X i → i < w.heap.size
theorem lsnew_any (W : World) (m : Int) : Calls Try.prog 9 #[.int .i64 m] W (fun e w' => ∃ q X, e = .returned (.pointer (some ⟨q, 0, none⟩)) ∧ LsP w' X q (Ls.new m) ∧ (∀ i, X i → W.heap.size ≤ i) ∧ Below W.heap.size W w') := by
  have C := Lib.hid (lscut_any m W)
  have E : Hid (max 0 (min m 1048576) = (Ls.new m).margin) := by show _ = min (max m 0) 1048576; omega
  generalize max 0 (min m 1048576) = d at *
  have B1 := Lib.hid ((Below.refl W.heap.size W).alloc (Nat.le_refl _) (.cells #[.int .i64 d, .map none] 51))
  have R1 := Lib.hid (heap_alloc_new W (.cells #[.int .i64 d, .map none] 51))
  go_enter Try.func9, Try.ntmps9
  go_wp2_with (go_at_call 20; (with_reducible refine C.out.mono ?_); rintro e w1 ⟨rfl, rfl⟩)
  go_ret
  rw [E.out] at R1 B1 ⊢
  exact ⟨_, fun i => i = w1.heap.size, rfl, ⟨none, ⟨R1.out, ⟨fun _ => rfl, rfl⟩, Ls.new_good m, ⟨fun e he => (by cases he), by show 0 ≤ 1000001; omega⟩⟩, rfl, (by simp), fun i hi => by simp at hi ⊢; omega⟩, fun i hi => by simp at hi; omega, B1.out⟩
theorem lsget_nil (W : World) (k : ByteArray) : Calls Try.prog 15 #[.pointer none, .string k] W (fun e w' => e = .returned (.tuple #[leV 0 0 0, .bool false]) ∧ Below W.heap.size W w') := by
  have B1 := Lib.hid ((Below.refl W.heap.size W).alloc (Nat.le_refl _) (.cells #[.int .i64 0, .int .i64 0, .int .i64 0] 36))
  go_enter Try.func15, Try.ntmps15
  go_wp2_with fail
  exact bodyPost_ret (v := .tuple #[leV 0 0 0, .bool false]) (by simp [results, Try.results15, go_sem]) rfl ⟨rfl, B1.out⟩
end Go.Proofs.Ytemnioijgkahcaa
