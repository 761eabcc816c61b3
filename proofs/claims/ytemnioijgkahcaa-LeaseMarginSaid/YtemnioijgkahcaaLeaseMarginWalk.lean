/-
  The walk of LeaseMargin, of the package lease that landed.
-/
import Derived.Test.YtemnioijgkahcaaLsMargin0
import Derived.Test.YtemnioijgkahcaaLd9
