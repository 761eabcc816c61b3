/-
  What WorkerFalls's text leans on.
-/
import Derived.Test.YtgljepjflpijiaaWorkerFallsW
import Derived.Test.YtgljepjflpijiaaWpC
import Derived.Test.YtgljepjflpijiaaWkArg
