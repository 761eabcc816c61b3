/-
  The walk of RecordOnly, of the package record that landed.
-/
import Derived.Test.YtifokcpkamdkeaaRcOnly0
import Derived.Test.YtifokcpkamdkeaaRcd10

