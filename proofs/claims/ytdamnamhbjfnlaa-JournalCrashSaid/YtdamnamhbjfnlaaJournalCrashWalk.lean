/-
  The walk of JournalCrash, of the journal that landed.
-/
import Derived.Test.YtdamnamhbjfnlaaJrnCrash
import Derived.Test.YtdamnamhbjfnlaaJrnlC
