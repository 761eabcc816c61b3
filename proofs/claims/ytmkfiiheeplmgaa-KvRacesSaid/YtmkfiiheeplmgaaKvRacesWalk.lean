/-
  The walk of KvRaces, of the package kv that landed.
-/
import Derived.Test.YtmkfiiheeplmgaaKvRaces0
import Derived.Test.YtmkfiiheeplmgaaKd7
