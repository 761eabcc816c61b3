/-
  The words that the calls of package frame want.
-/
import Derived.Test.YtinebeonnhfebaaFrMath
import Derived.Test.YtinebeonnhfebaaCrcRef2
import Derived.Test.YtinebeonnhfebaaClone
import Derived.Test.YtinebeonnhfebaaConcat
import Derived.WalkLawsBesides
import Derived.Lib.MinMax
import Derived.Lib.SlBytesConst
