/-
  The walk of JournalOpens, of the journal that landed.
-/
import Derived.Test.YtdamnamhbjfnlaaJrnOpens
import Derived.Test.YtdamnamhbjfnlaaJrnlC
