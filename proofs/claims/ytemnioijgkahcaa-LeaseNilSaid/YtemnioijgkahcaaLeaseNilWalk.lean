/-
  The walk of LeaseNil, of the package lease that landed.
-/
import Derived.Test.YtemnioijgkahcaaLsNil0
import Derived.Test.YtemnioijgkahcaaLd9
import Derived.Test.YtemnioijgkahcaaLsOpen
