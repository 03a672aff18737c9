/-
  What the claims of layer 12 import: the walks and the contracts of the program's Encode and Decode.
-/
import Derived.Test.YtbhempoamdiiiaaPvE
import Derived.Test.YtbhempoamdiiiaaPvD
import Derived.Test.YtbhempoamdiiiaaPuX
import Derived.Test.YtbhempoamdiiiaaPuY
namespace Go.Proofs.Ytbhempoamdiiiaa
end Go.Proofs.Ytbhempoamdiiiaa
