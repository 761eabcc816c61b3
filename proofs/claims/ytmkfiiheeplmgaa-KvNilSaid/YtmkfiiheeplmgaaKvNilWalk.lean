/-
  The walk of KvNil, of the package kv that landed.
-/
import Derived.Test.YtmkfiiheeplmgaaKvNil0
import Derived.Test.YtmkfiiheeplmgaaKd7
