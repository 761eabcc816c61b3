/-
  Package kv in memory (a struct; its map is made by the first change): New, entries, has, Get, Len, Rev. No condition.
-/
import Derived.Test.YtmkfiiheeplmgaaKvMap
import Derived.Test.YtmkfiiheeplmgaaKvC
import Derived.Test.YtmkfiiheeplmgaaKvRef3
import Derived.Laws.ByValue
namespace Go.Proofs.Ytmkfiiheeplmgaa
open Go.RowKit Go.Deep Go.Maps Go.WideMaps

theorem zero_entry (w : World) : (zeroValue 67).run Try.prog w = .ok (.agg #[.string ⟨#[]⟩, .int .i64 0]) w := by kernel_rfl
/-- A map that may not be there yet. -/
def MapO (w : World) (mo : Option Nat) (l : List Kv.En) : Prop :=
  match mo with
  | none => l = []
  | some m => MapIs Try.prog 9 w m l
theorem MapO.look {w : World} {mo : Option Nat} {l : List Kv.En} (h : MapO w mo l) (k : ByteArray) (hs : k.size ≤ maxLen) :
    (Instr.lookup 56 (.map mo) (.string k) false).run Try.prog w = .ok (.agg #[.string (Kv.valOf l k), .int .i64 (Kv.revOf l k)]) w := by
  cases mo with
  | some m => exact look_run Try.underlying9 Try.underlying56 (zero_entry w) h k hs
  | none =>
    obtain rfl : l = [] := h
    exact Maps.look_nil false (string_keyed Try.underlying9) Try.underlying56 (zero_entry w) (keyOf_string_mk Try.underlying9 hs)
theorem MapO.look_ok {w : World} {mo : Option Nat} {l : List Kv.En} (h : MapO w mo l) (k : ByteArray) (hs : k.size ≤ maxLen) :
    (Instr.lookup 56 (.map mo) (.string k) true).run Try.prog w = .ok (.tuple #[.agg #[.string (Kv.valOf l k), .int .i64 (Kv.revOf l k)], .bool (Kv.find l k).isSome]) w := by
  cases mo with
  | some m => exact look_ok_run Try.underlying9 Try.underlying56 (zero_entry w) h k hs
  | none =>
    obtain rfl : l = [] := h
    exact Maps.look_nil true (string_keyed Try.underlying9) Try.underlying56 (zero_entry w) (keyOf_string_mk Try.underlying9 hs)
theorem MapO.len {w : World} {mo : Option Nat} {l : List Kv.En} (h : MapO w mo l) (ty : TypeId) :
    (Builtin.len_ #[56] ty #[.map mo]).run Try.prog w = .ok (.int .i64 (l.length : Nat)) w := by
  cases mo with
  | some m => exact len_run Try.underlying56 h ty
  | none =>
    obtain rfl : l = [] := h
    exact Maps.len_nil Try.underlying56 ty
theorem MapO.keep {w w' : World} {mo : Option Nat} {l : List Kv.En} (h : MapO w mo l) (hk : ∀ m, mo = some m → w'.heap[m]? = w.heap[m]?) : MapO w' mo l := by
  cases mo with
  | some m => exact MapIs.keep h (hk m rfl)
  | none => exact h
theorem MapO.lt {w : World} {m : Nat} {l : List Kv.En} (h : MapO w (some m) l) : m < w.heap.size := MapIs.lt (P := Try.prog) (kt := 9) (l := l) h
theorem MapO.on {w w' : World} {mo : Option Nat} {l : List Kv.En} (h : MapO w mo l) (hb : Below w.heap.size w w') : MapO w' mo l :=
  h.keep fun m e => by subst e; exact hb.block m h.lt
/-- The store in block q, its map in mo. -/
structure KvIs (w : World) (q : Nat) (mo : Option Nat) (s : Kv.St) : Prop where
  row : w.heap[q]? = some (.cells #[.int .i64 s.rev, .map mo] 58 (0, 0))
  map : MapO w mo s.l
  good : Kv.Good s
theorem KvIs.ne {w : World} {q m : Nat} {s : Kv.St} (h : KvIs w q (some m) s) : q ≠ m := fun e => by
  obtain ⟨D, ⟨es, clock, hb, _⟩, _⟩ := show MapIs Try.prog 9 w m s.l from h.map
  have := h.row
  rw [e, hb] at this
  injection this with this
  cases this
theorem KvIs.cells {w : World} {q : Nat} {mo : Option Nat} {s : Kv.St} (h : KvIs w q mo s) : w.cell? ⟨q, 0, none⟩ = some (.int .i64 s.rev) ∧ w.cell? ⟨q, 1, none⟩ = some (.map mo) ∧ w.frozen? ⟨q, 0, none⟩ = false ∧ q < w.heap.size :=
  ⟨by rw [cell_of_row w q 0 _ _ _ h.row]; rfl, by rw [cell_of_row w q 1 _ _ _ h.row]; rfl, frozen_of_row _ _ _ _ _ h.row, (Array.getElem?_eq_some_iff.1 h.row).1⟩
theorem KvIs.keep {w w' : World} {q : Nat} {mo : Option Nat} {s : Kv.St} (h : KvIs w q mo s) (h1 : w'.heap[q]? = w.heap[q]?) (h2 : ∀ m, mo = some m → w'.heap[m]? = w.heap[m]?) : KvIs w' q mo s := ⟨h1.trans h.row, h.map.keep h2, h.good⟩
theorem KvIs.on {w w' : World} {q : Nat} {mo : Option Nat} {s : Kv.St} (h : KvIs w q mo s) (hb : Below w.heap.size w w') : KvIs w' q mo s := ⟨(hb.block q h.cells.2.2.2).trans h.row, h.map.on hb, h.good⟩
/-- The predicate of the contracts. -/
def KvP : KPred := fun w X q s => ∃ mo, KvIs w q mo s ∧ X q ∧ (∀ m, mo = some m → X m) ∧ ∀ i, X i → i < w.heap.size
/-- What a pointer of the program's leads to: a store, or none (which reads as an empty one). -/
def EAt (w : World) (p : Value) (mo : Option Nat) (s : Kv.St) : Prop := (p = .pointer none ∧ mo = none ∧ s = Kv.St.none) ∨ ∃ q, p = .pointer (some ⟨q, 0, none⟩) ∧ KvIs w q mo s
theorem KvIs.ask {w : World} {q : Nat} {mo : Option Nat} {s : Kv.St} (h : KvIs w q mo s) : EAt w (.pointer (some ⟨q, 0, none⟩)) mo s := .inr ⟨q, rfl, h⟩
theorem EAt.nil (w : World) : EAt w (.pointer none) none Kv.St.none := .inl ⟨rfl, rfl, rfl⟩
theorem EAt.on {w w' : World} {p : Value} {mo : Option Nat} {s : Kv.St} (h : EAt w p mo s) (hb : Below w.heap.size w w') : EAt w' p mo s := by
  rcases h with h | ⟨q, h1, h2⟩
  · exact .inl h
  · exact .inr ⟨q, h1, h2.on hb⟩
theorem EAt.map {w : World} {p : Value} {mo : Option Nat} {s : Kv.St} (h : EAt w p mo s) : MapO w mo s.l := by
  rcases h with ⟨_, rfl, rfl⟩ | ⟨q, h1, h2⟩
  · rfl
  · exact h2.map
theorem EAt.good {w : World} {p : Value} {mo : Option Nat} {s : Kv.St} (h : EAt w p mo s) : Kv.Good s := by
  rcases h with ⟨_, rfl, rfl⟩ | ⟨q, h1, h2⟩
  · exact Kv.Good.none_
  · exact h2.good
theorem kventries_any (W : World) (p : Value) (mo : Option Nat) (s : Kv.St) (h : EAt W p mo s) : Calls Try.prog 30 #[p] W (fun e w' => e = .returned (.map mo) ∧ w' = W) := by
  rcases h with ⟨rfl, rfl, rfl⟩ | ⟨q, rfl, h2⟩
  · go_enter Try.func30, Try.ntmps30
    go_wp2_with fail
    go_ret
    exact ⟨rfl, rfl⟩
  · obtain ⟨c0, c1, f0, hq⟩ := h2.cells
    clear h2
    go_enter Try.func30, Try.ntmps30
    go_wp2_with fail
    go_ret
    exact ⟨rfl, rfl⟩
theorem kvhas_any (W : World) (p : Value) (mo : Option Nat) (s : Kv.St) (h : EAt W p mo s) (k : ByteArray) (hk : k.size ≤ maxLen) :
    Calls Try.prog 41 #[p, .string k] W (fun e w' => e = .returned (.bool (Kv.find s.l k).isSome) ∧ Below W.heap.size W w') := by
  have C := Lib.hid (kventries_any W p mo s h)
  have hlk := h.map.look_ok k hk
  generalize hv : Kv.valOf s.l k = v at hlk
  generalize hr : Kv.revOf s.l k = r at hlk
  generalize (Kv.find s.l k).isSome = b at hlk ⊢
  have B2 := Lib.hid ((Below.refl W.heap.size W).alloc (Nat.le_refl _) (.cells #[.string v, .int .i64 r] 67))
  clear h hv hr
  go_enter Try.func41, Try.ntmps41
  go_wp2_with (go_at_call 30; (with_reducible refine C.out.mono ?_); rintro e w1 ⟨rfl, rfl⟩)
  go_ret
  exact ⟨rfl, B2.out⟩
theorem kvlen_ask (W : World) (p : Value) (mo : Option Nat) (s : Kv.St) (h : EAt W p mo s) : Calls Try.prog 23 #[p] W (fun e w' => e = .returned (.int .i64 (s.l.length : Nat)) ∧ w' = W) := by
  have C := Lib.hid (kventries_any W p mo s h)
  have hln := fun ty => h.map.len ty
  clear h
  go_enter Try.func23, Try.ntmps23
  go_wp2_with (go_at_call 30; (with_reducible refine C.out.mono ?_); rintro e w1 ⟨rfl, rfl⟩)
  go_ret
  exact ⟨rfl, rfl⟩
theorem kvget_by (W : World) (p : Value) (mo : Option Nat) (k v : ByteArray) (r : Int) (C : Calls Try.prog 30 #[p] W (fun e w' => e = .returned (.map mo) ∧ w' = W))
    (hlk : (Instr.lookup 56 (.map mo) (.string k) false).run Try.prog W = .ok (.agg #[.string v, .int .i64 r]) W) :
    Calls Try.prog 16 #[p, .string k] W (fun e w' => e = .returned (.tuple #[.string v, .int .i64 r]) ∧ Below W.heap.size W w') := by
  have C := Lib.hid C
  have B2 := Lib.hid ((Below.refl W.heap.size W).alloc (Nat.le_refl _) (.cells #[.string v, .int .i64 r] 67))
  go_enter Try.func16, Try.ntmps16
  go_upto_region 2 with (go_at_call 30; (with_reducible refine C.out.mono ?_); rintro e w1 ⟨rfl, rfl⟩)
  go_region
  go_wp2_with fail
  exact bodyPost_ret (v := .tuple #[.string v, .int .i64 r]) (by simp [results, Try.results16, go_sem]) rfl ⟨rfl, B2.out.drew⟩
theorem kvget_ask (W : World) (p : Value) (mo : Option Nat) (s : Kv.St) (h : EAt W p mo s) (k : ByteArray) (hk : k.size ≤ maxLen) : Calls Try.prog 16 #[p, .string k] W (KGet s k W) :=
  kvget_by W p mo k _ _ (kventries_any W p mo s h) (h.map.look k hk)
theorem check_str (W : World) (k : ByteArray) (n : Nat) : (Instr.checkKey true (n + 1) 9 (.string k)).run Try.prog W = .ok () W := by
  simp [Instr.checkKey, run_underlying Try.underlying9]
theorem look_none (W : World) (k : ByteArray) : (Instr.lookup 56 (.map none) (.string k) false).run Try.prog W = .ok (.agg #[.string ⟨#[]⟩, .int .i64 0]) W := by
  have h1 : (Instr.checkKey true 10000 9 (.string k)).run Try.prog W = .ok () W := check_str W k 9999
  have h2 : (Instr.findKey 9 (.string k) []).run Try.prog W = .ok none W := by
    simp [Instr.findKey, Instr.findNow, run_underlying Try.underlying9]
  simp [Instr.lookup, run_underlying Try.underlying56, h1, h2, Result.andThen]
theorem kvget_nil (W : World) (k : ByteArray) : Calls Try.prog 16 #[.pointer none, .string k] W (fun e w' => e = .returned (.tuple #[.string ⟨#[]⟩, .int .i64 0]) ∧ Below W.heap.size W w') :=
  kvget_by W _ _ k _ _ (kventries_any W _ _ _ (EAt.nil W)) (look_none W k)
theorem kvrev_ask (W : World) (p : Value) (mo : Option Nat) (s : Kv.St) (h : EAt W p mo s) : Calls Try.prog 21 #[p] W (KInt s.rev W) := by
  rcases h with ⟨rfl, rfl, rfl⟩ | ⟨q, rfl, h2⟩
  · go_enter Try.func21, Try.ntmps21
    go_wp2_with fail
    go_ret
    exact ⟨rfl, Below.refl _ _⟩
  · obtain ⟨c0, c1, f0, hq⟩ := h2.cells
    clear h2
    go_enter Try.func21, Try.ntmps21
    go_wp2_with fail
    go_ret
    exact ⟨rfl, Below.refl _ _⟩
theorem kvnew_any (W : World) : Calls Try.prog 10 #[] W (fun e w' => ∃ q X, e = .returned (.pointer (some ⟨q, 0, none⟩)) ∧ KvP w' X q Kv.St.none ∧ (∀ i, X i → W.heap.size ≤ i) ∧ Below W.heap.size W w') := by
  have B1 := Lib.hid ((Below.refl W.heap.size W).alloc (Nat.le_refl _) (.cells #[.int .i64 0, .map none] 58))
  have R1 := Lib.hid (heap_alloc_new W (.cells #[.int .i64 0, .map none] 58))
  go_enter Try.func10, Try.ntmps10
  go_wp2_with fail
  go_ret
  exact ⟨_, fun i => i = W.heap.size, rfl, ⟨none, ⟨R1.out, rfl, Kv.Good.none_⟩, rfl, (by simp), fun i hi => by simp at hi ⊢; omega⟩, fun i hi => by simp at hi; omega, B1.out⟩
end Go.Proofs.Ytmkfiiheeplmgaa
