/-
  The walk of PhaseWays, of the package phase that landed.
-/
import Derived.Test.YtbimacagfobdbaaDoorPhWalk
