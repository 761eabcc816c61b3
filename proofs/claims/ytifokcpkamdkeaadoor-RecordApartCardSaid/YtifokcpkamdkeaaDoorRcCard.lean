/-
  What a row of this program lists tells of the library's variables.
-/
import Derived.Test.YtifokcpkamdkeaaDoorRows
import Derived.Test.YtifokcpkamdkeaaDoorRcTxt
import Derived.Test.YtifokcpkamdkeaaDoorLaid
import Derived.Stop.LaidErr
import Derived.Shelf.Vars
import Derived.MakeChecks
import Derived.Lay
namespace Go.Proofs.YtifokcpkamdkeaaDoor
open Go Go.RowKit

theorem pow_data : Rows.laid_internal_strconv_uint64pow10 = (Lib.tabData .u64 Lib.pow10Tab : DataW Unit) := by kernel_rfl
theorem tb_of {W : World} (hL : laidMetH Tryd.prog Rows.recordWritesRow.laid W) (_ : W.ShapedOpen Tryd.prog) : Tb W := by
  rw [MakeChecks.laidMetH_plain _ _ _ (by kernel_rfl)] at hL
  have h3 := hL.tail.tail
  exact ⟨Lib.tabIs_of_head (n := 20) (t := 103) (e := 92) g_pow (by kernel_rfl) (by kernel_rfl) Tryd.underlying92 (by kernel_rfl) (by kernel_rfl) (pow_data ▸ h3)⟩
end Go.Proofs.YtifokcpkamdkeaaDoor
