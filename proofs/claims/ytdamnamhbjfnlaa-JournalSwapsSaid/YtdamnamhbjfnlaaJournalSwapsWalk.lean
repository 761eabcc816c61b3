/-
  The walk of JournalSwaps, of the journal that landed.
-/
import Derived.Test.YtdamnamhbjfnlaaJrnSwaps
import Derived.Test.YtdamnamhbjfnlaaJrnlC
