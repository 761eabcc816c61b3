/-
  The walk of PhaseWalks, of the package phase that landed.
-/
import Derived.Test.YtbimacagfobdbaaDoorPhWalk
