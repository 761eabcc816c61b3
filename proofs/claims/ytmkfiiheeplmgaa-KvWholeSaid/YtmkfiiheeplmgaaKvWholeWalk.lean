/-
  The walk of KvWhole, of the package kv that landed.
-/
import Derived.Test.YtmkfiiheeplmgaaKvWhole0
import Derived.Test.YtmkfiiheeplmgaaKd7
