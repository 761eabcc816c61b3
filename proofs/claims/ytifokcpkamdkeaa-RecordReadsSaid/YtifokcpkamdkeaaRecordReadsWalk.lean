/-
  The walk of RecordReads, of the package record that landed.
-/
import Derived.Test.YtifokcpkamdkeaaRcReads0
import Derived.Test.YtifokcpkamdkeaaRcd10
import Derived.Test.YtifokcpkamdkeaaRcRead
