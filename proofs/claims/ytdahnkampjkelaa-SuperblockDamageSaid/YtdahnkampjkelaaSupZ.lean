/-
  The walks of layer 9 and the program's contracts together.
-/
import Derived.Test.YtdahnkampjkelaaSupD
import Derived.Test.YtdahnkampjkelaaSupJ
