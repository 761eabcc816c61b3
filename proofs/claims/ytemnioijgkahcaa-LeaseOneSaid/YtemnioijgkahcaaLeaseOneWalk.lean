/-
  The walk of LeaseOne, of the package lease that landed.
-/
import Derived.Test.YtemnioijgkahcaaLsOne0
import Derived.Test.YtemnioijgkahcaaLd9
