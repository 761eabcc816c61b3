/-
  The walk of LeaseKeeps, of the package lease that landed.
-/
import Derived.Test.YtemnioijgkahcaaLsKeeps0
import Derived.Test.YtemnioijgkahcaaLd9
