/-
  The walk of KvAgain, of the package kv that landed.
-/
import Derived.Test.YtmkfiiheeplmgaaKvAgain0
import Derived.Test.YtmkfiiheeplmgaaKd7
