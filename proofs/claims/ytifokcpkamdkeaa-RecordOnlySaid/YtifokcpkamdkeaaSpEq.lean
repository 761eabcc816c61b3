/-
  Two specs that are alike, compared.
-/
import Derived.Test.YtifokcpkamdkeaaSpRef1
import Derived.Laws.StructEq
import Derived.ChangeKeysEq
namespace Go.Proofs.Ytifokcpkamdkeaa
open Go.RowKit

theorem spec_fields : Try.prog.underlying 26 = some (.struct (Try.prog.fieldsOf 26)) := by kernel_rfl
theorem spec_stood : Try.prog.stoodInHeld 26 = false := by kernel_rfl
theorem steps_arr : Try.prog.underlying 24 = some (.array 4 3) := by kernel_rfl
theorem spec_guard : Try.prog.eqGuardType Try.prog.depth 26 = false := by kernel_rfl
theorem int_cells : Try.prog.cellsOf 3 = 1 := by kernel_rfl
theorem arr_same (a b c e : Int) (d : Nat) (W : World) : (Op.equalIn (d + 2) 24 (.agg #[.int .i64 a, .int .i64 b, .int .i64 c, .int .i64 e]) (.agg #[.int .i64 a, .int .i64 b, .int .i64 c, .int .i64 e])).run Try.prog W = .ok true W := by
  obtain ⟨i0, hi0, hz0, hz1, hz2⟩ := info_parts info_int
  rw [run_equalIn_array W (d + 1) _ _ steps_arr hi0, int_cells, show List.range 4 = [0, 1, 2, 3] from rfl]
  simp [Op.eqItems, go_sem, Sem.run_bind, Result.andThen]
set_option maxRecDepth 100000 in
set_option maxHeartbeats 1600000 in
theorem spec_same (s : Spc.Sp) (W : World) : (binOp .eql 26 (Spc.val s) (Spc.val s)).run Try.prog W = .ok (.bool true) W := by
  unfold Spc.val
  rw [run_eql_struct, run_equalIn_agg W 9999 26 _ _ spec_fields spec_stood]
  have hi : ∀ n W, (Op.equalIn 9999 3 (.int .i64 n) (.int .i64 n)).run Try.prog W = .ok true W := fun n W => by
    rw [run_equalIn_int W 9998 3 .i64 .i64 n n Try.underlying3]; simp
  have ha := fun W => arr_same s.a s.b s.c s.e 9997 W
  simp only [Program.fieldsOf, Try.underlying26, Spc.cells]
  simp [Op.eqFields, go_sem, Sem.run_bind, Result.andThen, hi, ha]
end Go.Proofs.Ytifokcpkamdkeaa
