/-
  The walk of PhaseNext, of the package phase that landed.
-/
import Derived.Test.YtbimacagfobdbaaDoorPhWalk
