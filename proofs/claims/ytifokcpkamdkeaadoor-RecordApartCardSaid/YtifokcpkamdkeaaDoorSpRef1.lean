/-
  The document's package of layer 7: numbers within bounds, made of any; a spec's twelve numbers.
-/
import Derived.Test.YtifokcpkamdkeaaDoorSpText
import Derived.Test.YtifokcpkamdkeaaDoorBase
import Derived.Test.YtifokcpkamdkeaaDoorTx
import Derived.Test.YtifokcpkamdkeaaDoorInts
namespace Go.Proofs.YtifokcpkamdkeaaDoor
open Go.RowKit

theorem rin_any (n lo hi : Int) (w : World) : Calls Tryd.prog 51 #[.int .i64 n, .int .i64 lo, .int .i64 hi] w fun e w' => e = .returned (.bool (Spc.inn n lo hi)) ∧ w' = w := by
  have HI : Hid (Spc.inn n lo hi = (decide (lo ≤ n) && decide (n ≤ hi))) := rfl
  by_cases h1 : lo ≤ n
  · by_cases h2 : n ≤ hi
    · have e : Spc.inn n lo hi = true := Spc.inn_iff.2 ⟨h1, h2⟩
      rw [e]
      clear HI e
      go_enter Tryd.func51, Tryd.ntmps51
      go_wp2_with fail
      go_ret
      exact ⟨rfl, rfl⟩
    · have e : Spc.inn n lo hi = false := by rw [HI.out, Bool.and_eq_false_iff, decide_eq_false_iff_not, decide_eq_false_iff_not]; exact .inr h2
      rw [e]
      clear HI e
      go_enter Tryd.func51, Tryd.ntmps51
      go_wp2_with fail
      go_ret
      exact ⟨rfl, rfl⟩
  · have e : Spc.inn n lo hi = false := by rw [HI.out, Bool.and_eq_false_iff, decide_eq_false_iff_not, decide_eq_false_iff_not]; exact .inl h1
    rw [e]
    clear HI e
    go_enter Tryd.func51, Tryd.ntmps51
    go_wp2_with fail
    go_ret
    exact ⟨rfl, rfl⟩
theorem rnear_any (n least many : Int) (hl : 0 ≤ least ∧ least ≤ 1000) (hm : 0 < many ∧ many ≤ 1000) (w : World) : Calls Tryd.prog 57 #[.int .i64 n, .int .i64 least, .int .i64 many] w fun e w' => e = .returned (.int .i64 (Spc.near n least many)) ∧ w' = w := by
  have HN : Hid (Spc.near n least many = least + n % 18446744073709551616 % many) := rfl
  have h1 := Int.emod_nonneg n (b := 18446744073709551616) (by omega)
  have h2 := Int.emod_lt_of_pos n (b := 18446744073709551616) (by omega)
  have h3 := Int.emod_nonneg (n % 18446744073709551616) (b := many) (by omega)
  have h4 := Int.emod_lt_of_pos (n % 18446744073709551616) hm.1
  have hu : IntKind.u64.wrap n = n % 18446744073709551616 := IntKind.wrap_u64 n
  have hu2 : IntKind.u64.wrap many = many := by rw [IntKind.wrap_u64]; omega
  generalize n % 18446744073709551616 = y at *
  have ht : y.tmod many = y % many := Int.tmod_eq_emod_of_nonneg h1
  generalize y % many = z at *
  go_enter Tryd.func57, Tryd.ntmps57
  go_wp2_with fail
  go_ret
  exact ⟨by rw [HN.out]; rfl, rfl⟩
def Spc.cells (s : Spc.Sp) : Array Value := #[.int .i64 s.v, .int .i64 s.d, .int .i64 s.u, .int .i64 s.n, .int .i64 s.g, .int .i64 s.a, .int .i64 s.b, .int .i64 s.c, .int .i64 s.e, .int .i64 s.w, .int .i64 s.x, .int .i64 s.k]
def Spc.val (s : Spc.Sp) : Value := .agg (Spc.cells s)
/-- What a block that holds a spec reads as. -/
structure SpAt (w : World) (g : Nat) (s : Spc.Sp) : Prop where
  f0 : w.cell? ⟨g, 0, none⟩ = some (.int .i64 s.v)
  f1 : w.cell? ⟨g, 1, none⟩ = some (.int .i64 s.d)
  f2 : w.cell? ⟨g, 2, none⟩ = some (.int .i64 s.u)
  f3 : w.cell? ⟨g, 3, none⟩ = some (.int .i64 s.n)
  f4 : w.cell? ⟨g, 4, none⟩ = some (.int .i64 s.g)
  f5 : w.cell? ⟨g, 5, none⟩ = some (.int .i64 s.a)
  f6 : w.cell? ⟨g, 6, none⟩ = some (.int .i64 s.b)
  f7 : w.cell? ⟨g, 7, none⟩ = some (.int .i64 s.c)
  f8 : w.cell? ⟨g, 8, none⟩ = some (.int .i64 s.e)
  f9 : w.cell? ⟨g, 9, none⟩ = some (.int .i64 s.w)
  f10 : w.cell? ⟨g, 10, none⟩ = some (.int .i64 s.x)
  f11 : w.cell? ⟨g, 11, none⟩ = some (.int .i64 s.k)
theorem spAt_of {w : World} {g : Nat} {s : Spc.Sp} {t : TypeId} {fr : Nat × Nat} (h : w.heap[g]? = some (.cells (Spc.cells s) t fr)) : SpAt w g s := by
  constructor <;> (rw [cell_of_row w g _ _ _ _ h]; rfl)
theorem SpAt.below {w w' : World} {g : Nat} {s : Spc.Sp} (h : SpAt w g s) (hg : g < w.heap.size) (hb : Below w.heap.size w w') : SpAt w' g s :=
  ⟨(hb.cell (p := ⟨g, 0, none⟩) hg).trans h.f0, (hb.cell (p := ⟨g, 1, none⟩) hg).trans h.f1, (hb.cell (p := ⟨g, 2, none⟩) hg).trans h.f2, (hb.cell (p := ⟨g, 3, none⟩) hg).trans h.f3, (hb.cell (p := ⟨g, 4, none⟩) hg).trans h.f4, (hb.cell (p := ⟨g, 5, none⟩) hg).trans h.f5, (hb.cell (p := ⟨g, 6, none⟩) hg).trans h.f6, (hb.cell (p := ⟨g, 7, none⟩) hg).trans h.f7, (hb.cell (p := ⟨g, 8, none⟩) hg).trans h.f8, (hb.cell (p := ⟨g, 9, none⟩) hg).trans h.f9, (hb.cell (p := ⟨g, 10, none⟩) hg).trans h.f10, (hb.cell (p := ⟨g, 11, none⟩) hg).trans h.f11⟩
/-- Twelve numbers in a row of the call's own. -/
theorem rfields_any (s : Spc.Sp) (w : World) : Calls Tryd.prog 24 #[Spc.val s] w fun e w' => ∃ A c, e = .returned (.slice A 12 c) ∧ OwnI w' w.heap.size (.slice A 12 c) (Spc.flds s) ∧ Below w.heap.size w w' := by
  unfold Spc.val Spc.cells
  go_enter Tryd.func24, Tryd.ntmps24
  go_wp2_with fail
  go_ret
  have hn := heap_alloc_new (w.alloc (.cells (Spc.cells s) 24)) (.cells (vali (Spc.flds s)).toArray 3)
  rw [show (w.alloc (.cells (Spc.cells s) 24)).heap.size = w.heap.size + 1 from by simp] at hn
  exact ⟨_, 12, rfl, ⟨rfl, .inr ⟨w.heap.size + 1, 12, (vali (Spc.flds s)).toArray, rfl, Nat.le_succ _, hn, Nat.le_refl _, (by unfold maxLen; omega : 12 ≤ maxLen), rfl, rfl⟩⟩, ((Below.refl _ w).alloc (Nat.le_refl _) _).alloc (by simp) _⟩
end Go.Proofs.YtifokcpkamdkeaaDoor
