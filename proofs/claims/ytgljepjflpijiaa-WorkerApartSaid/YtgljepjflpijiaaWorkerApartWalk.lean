/-
  What WorkerApart's text leans on.
-/
import Derived.Test.YtgljepjflpijiaaWorkerApartW
import Derived.Test.YtgljepjflpijiaaWpC
import Derived.Test.YtgljepjflpijiaaWkArg
