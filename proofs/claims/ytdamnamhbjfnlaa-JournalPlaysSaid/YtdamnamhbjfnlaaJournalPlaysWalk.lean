/-
  The walk of JournalPlays, of the journal that landed.
-/
import Derived.Test.YtdamnamhbjfnlaaJrnPlays
import Derived.Test.YtdamnamhbjfnlaaJrnlC
import Derived.Test.YtdamnamhbjfnlaaJrnJB
