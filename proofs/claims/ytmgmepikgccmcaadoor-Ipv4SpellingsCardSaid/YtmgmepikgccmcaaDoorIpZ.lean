/-
  All walks of layer 10 and the contracts of the program's own functions.
-/
import Derived.Test.YtmgmepikgccmcaaDoorIqZ
import Derived.Test.YtmgmepikgccmcaaDoorIpB
import Derived.Test.YtmgmepikgccmcaaDoorIpE
namespace Go.Proofs.YtmgmepikgccmcaaDoor

end Go.Proofs.YtmgmepikgccmcaaDoor
