/-
  The words that the calls of package codec want: bytes and numbers in memory.
-/
import Derived.Test.YtifokcpkamdkeaaBytes
import Derived.Test.YtifokcpkamdkeaaInts
import Derived.Test.YtifokcpkamdkeaaCdcMath
import Derived.Lib.AppendStr
import Derived.Lib.SlBytesConst
import Derived.Lib.MinMax
import Derived.WalkLawsBesides
