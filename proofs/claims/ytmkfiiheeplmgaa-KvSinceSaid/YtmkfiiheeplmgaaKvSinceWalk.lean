/-
  The walk of KvSince, of the package kv that landed.
-/
import Derived.Test.YtmkfiiheeplmgaaKvSince0
import Derived.Test.YtmkfiiheeplmgaaKd7
