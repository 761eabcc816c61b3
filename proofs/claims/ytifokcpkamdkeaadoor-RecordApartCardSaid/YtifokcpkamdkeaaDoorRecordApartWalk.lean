/-
  The walk of RecordApart, of the package record that landed.
-/
import Derived.Test.YtifokcpkamdkeaaDoorRcAp0
