/-
  What a row of this program lists, and its world's shape, tell of the library's variables.
-/
import Derived.Test.YtijloajkiannlaaDoorRows
import Derived.Test.YtijloajkiannlaaDoorSpN3
import Derived.Test.YtijloajkiannlaaDoorLaid
import Derived.Stop.LaidErr
import Derived.Shelf.Vars
import Derived.MakeChecks
import Derived.Lay
namespace Go.Proofs.YtijloajkiannlaaDoor
open Go Go.RowKit

theorem star_err : "*" ++ "errors.errorString" = "*errors.errorString" := by decide
theorem row_err (u : TypeId) (h : Tryd.prog.typeName? 3 u = some "*errors.errorString") : u = 125 :=
  typeName_ptr_named (nm := "errors.errorString") (by rw [star_err]; kernel_rfl) (by kernel_rfl) (by decide) u (by rw [star_err]; exact h)
theorem pow_data : Rows.laid_internal_strconv_uint64pow10 = (Lib.tabData .u64 Lib.pow10Tab : DataW Unit) := by kernel_rfl
theorem tb_of {W : World} (hL : laidMetH Tryd.prog Rows.specReadsRow.laid W) (hsh : W.ShapedOpen Tryd.prog) : Tb W := by
  rw [MakeChecks.laidMetH_plain _ _ _ (by kernel_rfl)] at hL
  have h3 := hL.tail.tail
  have h6 := h3.tail.tail.tail
  refine ⟨?_, ?_, ?_⟩
  · exact Lib.tabIs_of_head (n := 20) (t := 107) (e := 87) g_pow (by kernel_rfl) (by kernel_rfl) Tryd.underlying87 (by kernel_rfl) (by kernel_rfl) (pow_data ▸ h3)
  · exact cell_of_shapedOpen_int (t := 3) (zero := #[.int .i64 0]) (k := .i64) hsh (of_decide_eq_true (by kernel_rfl)) (by kernel_rfl) rfl (by kernel_rfl) (by kernel_rfl) Tryd.underlying3
  · obtain ⟨a0, s0, hv0, _⟩ := laid_sentinel h6 g_syn (by kernel_rfl) Tryd.underlying70 row_err Tryd.underlying125 Tryd.underlying127 rfl rfl Tryd.underlying9 (by kernel_rfl) (by kernel_rfl)
    exact ⟨_, _, hv0⟩
end Go.Proofs.YtijloajkiannlaaDoor
