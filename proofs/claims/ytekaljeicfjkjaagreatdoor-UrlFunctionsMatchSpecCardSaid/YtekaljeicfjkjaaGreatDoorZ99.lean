/-
  What the claim of a statement imports.
-/
import Derived.Test.YtekaljeicfjkjaaGreatDoorB38
import Derived.Test.YtekaljeicfjkjaaGreatDoorB46
import Derived.Test.YtekaljeicfjkjaaGreatDoorB47
namespace Go.Proofs.YtekaljeicfjkjaaGreatDoor
end Go.Proofs.YtekaljeicfjkjaaGreatDoor
