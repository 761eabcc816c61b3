/-
  The walk of LeaseRises, of the package lease that landed.
-/
import Derived.Test.YtemnioijgkahcaaLsRises0
import Derived.Test.YtemnioijgkahcaaLd9
