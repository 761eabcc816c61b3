/-
  The walk of KvPlays, of the package kv that landed.
-/
import Derived.Test.YtmkfiiheeplmgaaKvPlays0
import Derived.Test.YtmkfiiheeplmgaaKd7
