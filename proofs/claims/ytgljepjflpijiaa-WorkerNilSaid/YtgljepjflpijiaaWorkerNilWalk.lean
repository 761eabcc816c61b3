/-
  What WorkerNil's text leans on.
-/
import Derived.Test.YtgljepjflpijiaaWpNil
import Derived.Test.YtgljepjflpijiaaWpC
import Derived.Test.YtgljepjflpijiaaNtArgM
