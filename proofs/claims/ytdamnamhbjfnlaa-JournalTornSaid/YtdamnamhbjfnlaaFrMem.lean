/-
  The words that the calls of package frame want.
-/
import Derived.Test.YtdamnamhbjfnlaaFrMath
import Derived.Test.YtdamnamhbjfnlaaCrcRef2
import Derived.Test.YtdamnamhbjfnlaaClone
import Derived.Test.YtdamnamhbjfnlaaConcat
import Derived.WalkLawsBesides
import Derived.Lib.MinMax
import Derived.Lib.SlBytesConst
