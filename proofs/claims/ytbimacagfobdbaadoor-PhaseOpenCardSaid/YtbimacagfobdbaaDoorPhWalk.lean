/-
  The walks of layer 11, of the package phase that landed.
-/
import Derived.Test.YtbimacagfobdbaaDoorPhL1
import Derived.Test.YtbimacagfobdbaaDoorPhCard
