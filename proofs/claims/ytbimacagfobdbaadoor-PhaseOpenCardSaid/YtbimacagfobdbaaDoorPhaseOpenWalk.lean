/-
  The walk of PhaseOpen, of the package phase that landed.
-/
import Derived.Test.YtbimacagfobdbaaDoorPhWalk
