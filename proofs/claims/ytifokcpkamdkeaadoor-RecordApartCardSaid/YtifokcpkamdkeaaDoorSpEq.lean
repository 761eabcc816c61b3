/-
  Two specs that are alike, compared.
-/
import Derived.Test.YtifokcpkamdkeaaDoorSpRef1
import Derived.Laws.StructEq
import Derived.ChangeKeysEq
namespace Go.Proofs.YtifokcpkamdkeaaDoor
open Go.RowKit

theorem spec_fields : Tryd.prog.underlying 24 = some (.struct (Tryd.prog.fieldsOf 24)) := by kernel_rfl
theorem spec_stood : Tryd.prog.stoodInHeld 24 = false := by kernel_rfl
theorem steps_arr : Tryd.prog.underlying 22 = some (.array 4 3) := by kernel_rfl
theorem spec_guard : Tryd.prog.eqGuardType Tryd.prog.depth 24 = false := by kernel_rfl
theorem int_cells : Tryd.prog.cellsOf 3 = 1 := by kernel_rfl
theorem arr_same (a b c e : Int) (d : Nat) (W : World) : (Op.equalIn (d + 2) 22 (.agg #[.int .i64 a, .int .i64 b, .int .i64 c, .int .i64 e]) (.agg #[.int .i64 a, .int .i64 b, .int .i64 c, .int .i64 e])).run Tryd.prog W = .ok true W := by
  obtain ⟨i0, hi0, hz0, hz1, hz2⟩ := info_parts info_int
  rw [run_equalIn_array W (d + 1) _ _ steps_arr hi0, int_cells, show List.range 4 = [0, 1, 2, 3] from rfl]
  simp [Op.eqItems, go_sem, Sem.run_bind, Result.andThen]
set_option maxRecDepth 100000 in
set_option maxHeartbeats 1600000 in
theorem spec_same (s : Spc.Sp) (W : World) : (binOp .eql 24 (Spc.val s) (Spc.val s)).run Tryd.prog W = .ok (.bool true) W := by
  unfold Spc.val
  rw [run_eql_struct, run_equalIn_agg W 9999 24 _ _ spec_fields spec_stood]
  have hi : ∀ n W, (Op.equalIn 9999 3 (.int .i64 n) (.int .i64 n)).run Tryd.prog W = .ok true W := fun n W => by
    rw [run_equalIn_int W 9998 3 .i64 .i64 n n Tryd.underlying3]; simp
  have ha := fun W => arr_same s.a s.b s.c s.e 9997 W
  simp only [Program.fieldsOf, Tryd.underlying24, Spc.cells]
  simp [Op.eqFields, go_sem, Sem.run_bind, Result.andThen, hi, ha]
end Go.Proofs.YtifokcpkamdkeaaDoor
