/-
  The words that the calls of package codec want: bytes and numbers in memory.
-/
import Derived.Test.YtifokcpkamdkeaaDoorBytes
import Derived.Test.YtifokcpkamdkeaaDoorInts
import Derived.Test.YtifokcpkamdkeaaDoorCdcMath
import Derived.Lib.AppendStr
import Derived.Lib.SlBytesConst
import Derived.Lib.MinMax
import Derived.WalkLawsBesides
