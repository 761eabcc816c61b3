/-
  What WorkerFence's text leans on.
-/
import Derived.Test.YtgljepjflpijiaaWorkerFenceW
import Derived.Test.YtgljepjflpijiaaWpC
import Derived.Test.YtgljepjflpijiaaWkArg
