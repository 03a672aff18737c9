/-
  What the claims of layer 18 over slices import: the walks, and how their arguments are opened.
-/
import Derived.Test.YtbpgkdhdooaigaaDiO
import Derived.Test.YtbpgkdhdooaigaaDiZ
import Derived.Test.YtbpgkdhdooaigaaPuO
namespace Go.Proofs.Ytbpgkdhdooaigaa

end Go.Proofs.Ytbpgkdhdooaigaa
