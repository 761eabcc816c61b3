/-
  Two specs compared, alike or not. No condition.
-/
import Derived.Test.YtifokcpkamdkeaaDoorSpEq
import Derived.Test.YtifokcpkamdkeaaDoorEqF
namespace Go.Proofs.YtifokcpkamdkeaaDoor
open Go.RowKit

theorem arr_eq (a b c e a' b' c' e' : Int) (d : Nat) (W : World) : (Op.equalIn (d + 2) 22 (.agg #[.int .i64 a, .int .i64 b, .int .i64 c, .int .i64 e]) (.agg #[.int .i64 a', .int .i64 b', .int .i64 c', .int .i64 e'])).run Tryd.prog W = .ok ((a == a') && ((b == b') && ((c == c') && ((e == e') && true)))) W := by
  obtain ⟨i0, hi0, hz0, hz1, hz2⟩ := info_parts info_int
  rw [run_equalIn_array W (d + 1) _ _ steps_arr hi0, int_cells, show List.range 4 = [0, 1, 2, 3] from rfl]
  have hi : ∀ x y, (Op.equalIn (d + 1) 3 (.int .i64 x) (.int .i64 y)).run Tryd.prog W = .ok (x == y) W := fun x y => run_equalIn_int W d 3 .i64 .i64 x y Tryd.underlying3
  refine eqi_cons ?_ ?_ (hi _ _) (eqi_cons ?_ ?_ (hi _ _) (eqi_cons ?_ ?_ (hi _ _) (eqi_cons ?_ ?_ (hi _ _) eqi_nil)))
  all_goals simp [go_sem, Sem.run_bind, Result.andThen]
def Spc.same (s t : Spc.Sp) : Bool := (s.v == t.v) && ((s.d == t.d) && ((s.u == t.u) && ((s.n == t.n) && ((s.g == t.g) && (((s.a == t.a) && ((s.b == t.b) && ((s.c == t.c) && ((s.e == t.e) && true)))) && ((s.w == t.w) && ((s.x == t.x) && ((s.k == t.k) && true))))))))
theorem Spc.same_iff {s t : Spc.Sp} : Spc.same s t = true ↔ s = t := by
  unfold Spc.same
  simp only [Bool.and_eq_true, beq_iff_eq, and_true]
  constructor
  · rintro ⟨h1, h2, h3, h4, h5, ⟨h6, h7, h8, h9⟩, h10, h11, h12⟩
    cases s; cases t
    simp only at h1 h2 h3 h4 h5 h6 h7 h8 h9 h10 h11 h12
    subst h1 h2 h3 h4 h5 h6 h7 h8 h9 h10 h11 h12
    rfl
  · rintro rfl
    simp
set_option maxRecDepth 100000 in
set_option maxHeartbeats 1600000 in
theorem spec_eqIn (s t : Spc.Sp) (d : Nat) (W : World) : (Op.equalIn (d + 3) 24 (Spc.val s) (Spc.val t)).run Tryd.prog W = .ok (Spc.same s t) W := by
  unfold Spc.val
  rw [run_equalIn_agg W (d + 2) 24 _ _ spec_fields spec_stood]
  have hi : ∀ x y, (Op.equalIn (d + 2) 3 (.int .i64 x) (.int .i64 y)).run Tryd.prog W = .ok (x == y) W := fun x y => run_equalIn_int W (d + 1) 3 .i64 .i64 x y Tryd.underlying3
  have ha := arr_eq s.a s.b s.c s.e t.a t.b t.c t.e d W
  simp only [Program.fieldsOf, Tryd.underlying24, Spc.cells]
  unfold Spc.same
  refine eqf_cons (by decide) ?_ ?_ (hi _ _) (eqf_cons (by decide) ?_ ?_ (hi _ _) (eqf_cons (by decide) ?_ ?_ (hi _ _) (eqf_cons (by decide) ?_ ?_ (hi _ _) (eqf_cons (by decide) ?_ ?_ (hi _ _) (eqf_cons (by decide) ?_ ?_ ha (eqf_cons (by decide) ?_ ?_ (hi _ _) (eqf_cons (by decide) ?_ ?_ (hi _ _) (eqf_cons (by decide) ?_ ?_ (hi _ _) eqf_nil))))))))
  all_goals simp [go_sem, Sem.run_bind, Result.andThen]
theorem spec_eq (s t : Spc.Sp) (W : World) : (binOp .eql 24 (Spc.val s) (Spc.val t)).run Tryd.prog W = .ok (.bool (Spc.same s t)) W := by
  have h := spec_eqIn s t 9997 W
  unfold Spc.val at *
  rw [run_eql_struct, h]; rfl
theorem spec_neq (s t : Spc.Sp) (W : World) : (binOp .neq 24 (Spc.val s) (Spc.val t)).run Tryd.prog W = .ok (.bool (!Spc.same s t)) W := by
  have h := spec_eqIn s t 9997 W
  unfold Spc.val at *
  rw [run_neq_struct, h]; rfl
end Go.Proofs.YtifokcpkamdkeaaDoor
