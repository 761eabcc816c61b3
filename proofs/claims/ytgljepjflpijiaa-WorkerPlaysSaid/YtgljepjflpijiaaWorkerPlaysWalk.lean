/-
  What WorkerPlays's text leans on.
-/
import Derived.Test.YtgljepjflpijiaaWorkerPlaysW
import Derived.Test.YtgljepjflpijiaaWpC
import Derived.Test.YtgljepjflpijiaaWkArg
