/-
  The walk of RecordBack, of the package record that landed.
-/
import Derived.Test.YtifokcpkamdkeaaRcBack0
import Derived.Test.YtifokcpkamdkeaaRcd10
import Derived.Test.YtifokcpkamdkeaaRcGood
