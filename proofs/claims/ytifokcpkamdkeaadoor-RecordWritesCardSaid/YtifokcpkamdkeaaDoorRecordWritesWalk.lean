/-
  The walk of RecordWrites, of the package record that landed.
-/
import Derived.Test.YtifokcpkamdkeaaDoorRcWr0
