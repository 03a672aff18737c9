/-
  All that a statement of layer 13 needs.
-/
import Derived.Test.YtoieapdfpbcfpaaDoorLbI
import Derived.Test.YtoieapdfpbcfpaaDoorLbK
