/-
  What WorkerRows's text leans on.
-/
import Derived.Test.YtgljepjflpijiaaWorkerRowsW
import Derived.Test.YtgljepjflpijiaaWpC
import Derived.Test.YtgljepjflpijiaaWkArg
