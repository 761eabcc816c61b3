/-
  The walk of PhaseNames, of the package phase that landed.
-/
import Derived.Test.YtbimacagfobdbaaDoorPhWalk
