/-
  What the claims of two statements import.
-/
import Derived.Test.YtdfacgncphmcoaaGreatDoorC37
import Derived.Test.YtdfacgncphmcoaaGreatDoorC28
import Derived.Test.YtdfacgncphmcoaaGreatDoorC27
namespace Go.Proofs.YtdfacgncphmcoaaGreatDoor
end Go.Proofs.YtdfacgncphmcoaaGreatDoor
